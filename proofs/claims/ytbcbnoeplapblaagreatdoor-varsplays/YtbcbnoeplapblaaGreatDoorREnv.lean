/-
  The document's Env.
-/
import Derived.Test.YtbcbnoeplapblaaGreatDoorVEnv
import Derived.Test.YtbcbnoeplapblaaGreatDoorRVMem
import Derived.Deep.RegionHeld3
import Derived.BigQuiet
namespace Go.Proofs.YtbcbnoeplapblaaGreatDoor
open Go.RowKit Go.Maps

set_option maxRecDepth 100000 in
set_option maxHeartbeats 40000000 in
theorem renv_any (w0 w : World) (b : Nat) (Y : Nat → Prop) (s : VSt) (h : RAt w0 w b Y s) (hL : s.L.length ≤ 1000) (hz : ∀ x ∈ s.L, x.name.length ≤ 200 ∧ x.value.length ≤ 200) :
    Calls Tryz.prog 18 #[.pointer (some ⟨b, 0, none⟩)] w fun e w' => ∃ v', e = .returned v' ∧ AOwn w' v' (envL s.L) ∧ (∀ k, v'.ownBlock = some k → w.heap.size ≤ k) ∧ Below w.heap.size w w' := by
  obtain ⟨iT, hiT, hzT0, hzT1, hzT2⟩ := info_of info_text
  obtain ⟨lv, av, hb, hrow, _⟩ := h
  obtain ⟨L, hLd⟩ : ∃ L, L = s.L := ⟨_, rfl⟩
  rw [← hLd] at hrow hL hz ⊢
  obtain ⟨ad, cap, hlv, hc⟩ := hrow
  obtain ⟨n, hn⟩ : ∃ n, n = L.length := ⟨_, rfl⟩
  rw [← hn] at hlv hL
  subst hlv
  have HN := hide hn
  have HZS := hide hz
  have HBL := hide hb.lt
  have HC0 := hide (show w.cell? ⟨b, 0, none⟩ = some (.slice ad n cap) from hb.cell 0 rfl)
  have HC := hide hc
  clear hb hc hn hz hLd
  go_enter Tryz.func18, Tryz.ntmps18
  go_wp2_with fail
  go_loopw [3, 4] (fun ov i wr => ∃ k : Nat, i = .int .i64 (k : Int) ∧ k ≤ n ∧ Hid (EIn w wr ov (envL (L.take k)))) (fun _ i _ => n - (intOf i).toNat)
  case atStart => exact ⟨0, rfl, Nat.zero_le _, hide ⟨World.ownsRow_nil _ _ _ _, Below.refl _ _⟩⟩
  case round =>
    obtain ⟨k, rfl, hk, HO⟩ := hrel
    by_cases hlt : k < n
    · obtain ⟨⟨nm, vl, st, ex, ro⟩, hx⟩ : ∃ x, L[k]? = some x := ⟨_, List.getElem?_eq_getElem (by have := unhide HN; omega)⟩
      obtain ⟨g, rfl, hg, hc0, hc1, hc2, hc3, hc4⟩ := unhide HC k _ hx
      have hzz := unhide HZS _ (List.mem_of_getElem? hx)
      have HT := hide (envL_take hx)
      have hel : (envL (L.take k)).length ≤ 1000 := by have := envL_len (L.take k); rw [List.length_take] at this; omega
      have hB := (unhide HO).below
      have hw1 : ∀ j, wr.cell? ⟨g, j, none⟩ = w.cell? ⟨g, j, none⟩ := fun j => World.cell?_of_block (hB.block g hg)
      simp only at hc0 hc1 hc2 hc3 hc4 hzz HT
      obtain ⟨hz3, hz4⟩ := hzz
      have c0 : wr.cell? ⟨b, 0, none⟩ = some (.slice (some ⟨g, 0, none⟩) n cap) := (hB.cell (p := ⟨b, 0, none⟩) (unhide HBL)).trans (unhide HC0)
      have d2 := (hw1 _).trans hc2
      have d3 := (hw1 _).trans hc3
      have HZ : Hid (wr.cell? ⟨b, 0, none⟩ = some (.slice (some ⟨g, 0, none⟩) n cap) ∧ wr.cell? ⟨g, k * 5, none⟩ = some (.string (BA nm)) ∧ wr.cell? ⟨g, k * 5 + 1, none⟩ = some (.string (BA vl))) := hide ⟨c0, (hw1 _).trans hc0, (hw1 _).trans hc1⟩
      have hlt1 : (k : Int) < (n : Int) := by omega
      have hk0 : (0 : Int) ≤ (k : Int) := by omega
      have HG := hide hg
      obtain ⟨l, hl⟩ : ∃ l, l = envL (L.take k) := ⟨_, rfl⟩
      rw [← hl] at HO hel HT
      clear hl hx hg hc0 hc1 hc2 hc3 hc4 hw1 hB
      cases st with
      | false =>
        go_wp2
        go_roundw
        case rel => exact ⟨k + 1, by go_num, by omega, hide (by rw [unhide HT]; simpa using unhide HO)⟩
        case measure => simp [intOf]; omega
      | true =>
        cases ex with
        | false =>
          go_wp2
          go_roundw
          case rel => exact ⟨k + 1, by go_num, by omega, hide (by rw [unhide HT]; simpa using unhide HO)⟩
          case measure => simp [intOf]; omega
        | true =>
          go_wp2_with fail
          clear c0 d2 d3
          refine wp_region_held_drew (S := fun w' => w'.cell? ⟨b, 0, none⟩ = some (.slice (some ⟨g, 0, none⟩) n cap) ∧ w'.cell? ⟨g, k * 5, none⟩ = some (.string (BA nm)) ∧ w'.cell? ⟨g, k * 5 + 1, none⟩ = some (.string (BA vl))) (by kernel_rfl) (by exact unhide HZ) (fun hHeld => ?_)
          refine wpAnyH_take (i := 0) (oi := { dst := some 32, op := Op.move (Operand.tmp 3), type := 22, pos := "ref.go:104", after := #[], guard := none }) (v := ?_) rfl (by kernel_rfl) (by kernel_rfl) (by kernel_rfl) (fun _ _ _ h => h) (Or.inl ⟨by rfl, ?_⟩) (by assumption) ?_
          rotate_left
          · intro w hSw; obtain ⟨s0, s1, s2⟩ := hSw; go_simp; (try rw [if_neg (by omega)]); (try with_reducible rfl)
          simp only [Act.put, List.setIfInBounds_toArray, List.set_cons_zero, List.set_cons_succ]
          refine wpAnyH_take (i := 1) (oi := { dst := some 33, op := Op.move (Operand.tmp 0), type := 29, pos := "ref.go:104", after := #[], guard := none }) (v := ?_) rfl (by kernel_rfl) (by kernel_rfl) (by kernel_rfl) (fun _ _ _ h => h) (Or.inl ⟨by rfl, ?_⟩) (by assumption) ?_
          rotate_left
          · intro w hSw; obtain ⟨s0, s1, s2⟩ := hSw; go_simp; (try rw [if_neg (by omega)]); (try with_reducible rfl)
          simp only [Act.put, List.setIfInBounds_toArray, List.set_cons_zero, List.set_cons_succ]
          refine wpAnyH_take (i := 2) (oi := { dst := some 34, op := Op.nilCheck (Operand.tmp 33), type := 0, pos := "ref.go:104", after := #[{ on := 1, ground := Ground.data }], guard := none }) (v := ?_) rfl (by kernel_rfl) (by kernel_rfl) (by kernel_rfl) (fun _ _ _ h => h) (Or.inl ⟨by rfl, ?_⟩) (by assumption) ?_
          rotate_left
          · intro w hSw; obtain ⟨s0, s1, s2⟩ := hSw; go_simp; (try rw [if_neg (by omega)]); (try with_reducible rfl)
          simp only [Act.put, List.setIfInBounds_toArray, List.set_cons_zero, List.set_cons_succ]
          refine wpAnyH_take (i := 3) (oi := { dst := some 35, op := Op.fieldAddr 32 (Operand.tmp 34) 0, type := 0, pos := "ref.go:104", after := #[{ on := 2, ground := Ground.data }], guard := none }) (v := ?_) rfl (by kernel_rfl) (by kernel_rfl) (by kernel_rfl) (fun _ _ _ h => h) (Or.inl ⟨by rfl, ?_⟩) (by assumption) ?_
          rotate_left
          · intro w hSw; obtain ⟨s0, s1, s2⟩ := hSw; go_simp; (try rw [if_neg (by omega)]); (try with_reducible rfl)
          simp only [Act.put, List.setIfInBounds_toArray, List.set_cons_zero, List.set_cons_succ]
          refine wpAnyH_take (i := 4) (oi := { dst := some 36, op := Op.load 30 (Operand.tmp 35), type := 30, pos := "ref.go:104", after := #[{ on := 3, ground := Ground.data }], guard := none }) (v := ?_) rfl (by kernel_rfl) (by kernel_rfl) (by kernel_rfl) (fun _ _ _ h => h) (Or.inl ⟨by rfl, ?_⟩) (by assumption) ?_
          rotate_left
          · intro w hSw; obtain ⟨s0, s1, s2⟩ := hSw; go_simp; (try rw [if_neg (by omega)]); (try with_reducible rfl)
          simp only [Act.put, List.setIfInBounds_toArray, List.set_cons_zero, List.set_cons_succ]
          refine wpAnyH_take (i := 5) (oi := { dst := some 37, op := Op.move (Operand.tmp 4), type := 3, pos := "ref.go:104", after := #[], guard := none }) (v := ?_) rfl (by kernel_rfl) (by kernel_rfl) (by kernel_rfl) (fun _ _ _ h => h) (Or.inl ⟨by rfl, ?_⟩) (by assumption) ?_
          rotate_left
          · intro w hSw; obtain ⟨s0, s1, s2⟩ := hSw; go_simp; (try rw [if_neg (by omega)]); (try with_reducible rfl)
          simp only [Act.put, List.setIfInBounds_toArray, List.set_cons_zero, List.set_cons_succ]
          refine wpAnyH_take (i := 6) (oi := { dst := some 38, op := Op.indexAddr 30 (Operand.tmp 36) (Operand.tmp 37), type := 0, pos := "ref.go:104", after := #[{ on := 4, ground := Ground.data }, { on := 5, ground := Ground.data }], guard := none }) (v := ?_) rfl (by kernel_rfl) (by kernel_rfl) (by kernel_rfl) (fun _ _ _ h => h) (Or.inl ⟨by rfl, ?_⟩) (by assumption) ?_
          rotate_left
          · intro w hSw; obtain ⟨s0, s1, s2⟩ := hSw; go_simp; (try rw [if_neg (by omega)]); (try with_reducible rfl)
          simp only [Act.put, List.setIfInBounds_toArray, List.set_cons_zero, List.set_cons_succ]
          refine wpAnyH_take (i := 7) (oi := { dst := some 39, op := Op.fieldAddr 62 (Operand.tmp 38) 0, type := 0, pos := "ref.go:104", after := #[{ on := 6, ground := Ground.data }], guard := none }) (v := ?_) rfl (by kernel_rfl) (by kernel_rfl) (by kernel_rfl) (fun _ _ _ h => h) (Or.inl ⟨by rfl, ?_⟩) (by assumption) ?_
          rotate_left
          · intro w hSw; obtain ⟨s0, s1, s2⟩ := hSw; go_simp; (try rw [if_neg (by omega)]); (try with_reducible rfl)
          simp only [Act.put, List.setIfInBounds_toArray, List.set_cons_zero, List.set_cons_succ]
          refine wpAnyH_take (i := 8) (oi := { dst := some 40, op := Op.load 9 (Operand.tmp 39), type := 9, pos := "ref.go:104", after := #[{ on := 7, ground := Ground.data }], guard := none }) (v := ?_) rfl (by kernel_rfl) (by kernel_rfl) (by kernel_rfl) (fun _ _ _ h => h) (Or.inl ⟨by rfl, ?_⟩) (by assumption) ?_
          rotate_left
          · intro w hSw; obtain ⟨s0, s1, s2⟩ := hSw; go_simp; (try rw [if_neg (by omega)]); (try with_reducible rfl)
          simp only [Act.put, List.setIfInBounds_toArray, List.set_cons_zero, List.set_cons_succ]
          refine wpAnyH_take (i := 9) (oi := { dst := some 41, op := Op.binOp BinOp.add 9 (Operand.tmp 40) (Operand.const (Value.string { data := #[61] })) 9, type := 9, pos := "ref.go:104", after := #[{ on := 8, ground := Ground.data }], guard := none }) (v := ?_) rfl (by kernel_rfl) (by kernel_rfl) (by kernel_rfl) (fun _ _ _ h => h) (Or.inl ⟨by rfl, ?_⟩) (by assumption) ?_
          rotate_left
          · intro w hSw; obtain ⟨s0, s1, s2⟩ := hSw; go_simp; (try rw [if_neg (by omega)]); (try with_reducible rfl)
          simp only [Act.put, List.setIfInBounds_toArray, List.set_cons_zero, List.set_cons_succ]
          refine wpAnyH_take (i := 10) (oi := { dst := some 42, op := Op.move (Operand.tmp 0), type := 29, pos := "ref.go:104", after := #[], guard := none }) (v := ?_) rfl (by kernel_rfl) (by kernel_rfl) (by kernel_rfl) (fun _ _ _ h => h) (Or.inl ⟨by rfl, ?_⟩) (by assumption) ?_
          rotate_left
          · intro w hSw; obtain ⟨s0, s1, s2⟩ := hSw; go_simp; (try rw [if_neg (by omega)]); (try with_reducible rfl)
          simp only [Act.put, List.setIfInBounds_toArray, List.set_cons_zero, List.set_cons_succ]
          refine wpAnyH_take (i := 11) (oi := { dst := some 43, op := Op.nilCheck (Operand.tmp 42), type := 0, pos := "ref.go:104", after := #[{ on := 10, ground := Ground.data }], guard := none }) (v := ?_) rfl (by kernel_rfl) (by kernel_rfl) (by kernel_rfl) (fun _ _ _ h => h) (Or.inl ⟨by rfl, ?_⟩) (by assumption) ?_
          rotate_left
          · intro w hSw; obtain ⟨s0, s1, s2⟩ := hSw; go_simp; (try rw [if_neg (by omega)]); (try with_reducible rfl)
          simp only [Act.put, List.setIfInBounds_toArray, List.set_cons_zero, List.set_cons_succ]
          refine wpAnyH_take (i := 12) (oi := { dst := some 44, op := Op.fieldAddr 32 (Operand.tmp 43) 0, type := 0, pos := "ref.go:104", after := #[{ on := 11, ground := Ground.data }], guard := none }) (v := ?_) rfl (by kernel_rfl) (by kernel_rfl) (by kernel_rfl) (fun _ _ _ h => h) (Or.inl ⟨by rfl, ?_⟩) (by assumption) ?_
          rotate_left
          · intro w hSw; obtain ⟨s0, s1, s2⟩ := hSw; go_simp; (try rw [if_neg (by omega)]); (try with_reducible rfl)
          simp only [Act.put, List.setIfInBounds_toArray, List.set_cons_zero, List.set_cons_succ]
          refine wpAnyH_take (i := 13) (oi := { dst := some 45, op := Op.load 30 (Operand.tmp 44), type := 30, pos := "ref.go:104", after := #[{ on := 12, ground := Ground.data }], guard := none }) (v := ?_) rfl (by kernel_rfl) (by kernel_rfl) (by kernel_rfl) (fun _ _ _ h => h) (Or.inl ⟨by rfl, ?_⟩) (by assumption) ?_
          rotate_left
          · intro w hSw; obtain ⟨s0, s1, s2⟩ := hSw; go_simp; (try rw [if_neg (by omega)]); (try with_reducible rfl)
          simp only [Act.put, List.setIfInBounds_toArray, List.set_cons_zero, List.set_cons_succ]
          refine wpAnyH_take (i := 14) (oi := { dst := some 46, op := Op.move (Operand.tmp 4), type := 3, pos := "ref.go:104", after := #[], guard := none }) (v := ?_) rfl (by kernel_rfl) (by kernel_rfl) (by kernel_rfl) (fun _ _ _ h => h) (Or.inl ⟨by rfl, ?_⟩) (by assumption) ?_
          rotate_left
          · intro w hSw; obtain ⟨s0, s1, s2⟩ := hSw; go_simp; (try rw [if_neg (by omega)]); (try with_reducible rfl)
          simp only [Act.put, List.setIfInBounds_toArray, List.set_cons_zero, List.set_cons_succ]
          refine wpAnyH_take (i := 15) (oi := { dst := some 47, op := Op.indexAddr 30 (Operand.tmp 45) (Operand.tmp 46), type := 0, pos := "ref.go:104", after := #[{ on := 13, ground := Ground.data }, { on := 14, ground := Ground.data }], guard := none }) (v := ?_) rfl (by kernel_rfl) (by kernel_rfl) (by kernel_rfl) (fun _ _ _ h => h) (Or.inl ⟨by rfl, ?_⟩) (by assumption) ?_
          rotate_left
          · intro w hSw; obtain ⟨s0, s1, s2⟩ := hSw; go_simp; (try rw [if_neg (by omega)]); (try with_reducible rfl)
          simp only [Act.put, List.setIfInBounds_toArray, List.set_cons_zero, List.set_cons_succ]
          refine wpAnyH_take (i := 16) (oi := { dst := some 48, op := Op.fieldAddr 62 (Operand.tmp 47) 1, type := 0, pos := "ref.go:104", after := #[{ on := 15, ground := Ground.data }], guard := none }) (v := ?_) rfl (by kernel_rfl) (by kernel_rfl) (by kernel_rfl) (fun _ _ _ h => h) (Or.inl ⟨by rfl, ?_⟩) (by assumption) ?_
          rotate_left
          · intro w hSw; obtain ⟨s0, s1, s2⟩ := hSw; go_simp; (try rw [if_neg (by omega)]); (try with_reducible rfl)
          simp only [Act.put, List.setIfInBounds_toArray, List.set_cons_zero, List.set_cons_succ]
          refine wpAnyH_take (i := 17) (oi := { dst := some 49, op := Op.load 9 (Operand.tmp 48), type := 9, pos := "ref.go:104", after := #[{ on := 16, ground := Ground.data }], guard := none }) (v := ?_) rfl (by kernel_rfl) (by kernel_rfl) (by kernel_rfl) (fun _ _ _ h => h) (Or.inl ⟨by rfl, ?_⟩) (by assumption) ?_
          rotate_left
          · intro w hSw; obtain ⟨s0, s1, s2⟩ := hSw; go_simp; (try rw [if_neg (by omega)]); (try with_reducible rfl)
          simp only [Act.put, List.setIfInBounds_toArray, List.set_cons_zero, List.set_cons_succ]
          refine wpAnyH_take (i := 18) (oi := { dst := some 50, op := Op.binOp BinOp.add 9 (Operand.tmp 41) (Operand.tmp 49) 9, type := 9, pos := "ref.go:104", after := #[{ on := 9, ground := Ground.data }, { on := 17, ground := Ground.data }], guard := none }) (v := ?_) rfl (by kernel_rfl) (by kernel_rfl) (by kernel_rfl) (fun _ _ _ h => h) (Or.inl ⟨by rfl, ?_⟩) (by assumption) ?_
          rotate_left
          · intro w hSw; obtain ⟨s0, s1, s2⟩ := hSw; go_simp; (try rw [if_neg (by omega)]); (try with_reducible rfl)
          simp only [Act.put, List.setIfInBounds_toArray, List.set_cons_zero, List.set_cons_succ]
          refine wpAnyH_ready (rs := [19]) (by kernel_rfl) (by simp) ?_
          refine AllReadyH.cons (o := { dst := some 51, op := Op.buildSlice 22 1 #[(0, Operand.tmp 50)], type := 22, pos := "ref.go:104", after := #[{ on := 18, ground := Ground.data }], guard := none }) rfl (fun KK hKK => ?_) AllReadyH.nil
          go_simp
          have z1 : (wr.alloc (.cells #[.string (BA nm ++ ⟨#[61]⟩ ++ BA vl)] 9)).cell? ⟨b, 0, none⟩ = some (.slice (some ⟨g, 0, none⟩) n cap) ∧ (wr.alloc (.cells #[.string (BA nm ++ ⟨#[61]⟩ ++ BA vl)] 9)).cell? ⟨g, k * 5, none⟩ = some (.string (BA nm)) ∧ (wr.alloc (.cells #[.string (BA nm ++ ⟨#[61]⟩ ++ BA vl)] 9)).cell? ⟨g, k * 5 + 1, none⟩ = some (.string (BA vl)) := ⟨cell_alloc (unhide HZ).1 _, cell_alloc (unhide HZ).2.1 _, cell_alloc (unhide HZ).2.2 _⟩
          refine hKK.out _ _ (by exact z1) (fun hHeld => ?_)
          clear hKK KK
          try simp only [Act.put, List.setIfInBounds_toArray, List.set_cons_zero, List.set_cons_succ]
          refine wpAnyH_ready (rs := [20]) (by kernel_rfl) (by simp) ?_
          refine AllReadyH.cons (o := { dst := some 52, op := Op.call { callee := Callee.builtin Builtin.append, args := #[Operand.tmp 32, Operand.tmp 51], argTypes := #[22, 22] }, type := 22, pos := "ref.go:104", after := #[{ on := 0, ground := Ground.data }, { on := 19, ground := Ground.data }], guard := none }) rfl (fun KK hKK => ?_) AllReadyH.nil
          refine step_append_lies _ (by rfl) _ _ _ (by rfl) w.heap.size 9 iT _ 1 16 und_texts hiT hzT0 hzT1 hzT2 rfl (by decide) u3 l.length (l.map fun x => .string (BA x)) (by simp [Act.eval]) (own_drew (World.ownsRow.alloc (unhide HO).row _)) ⟨wr.heap.size, 0, none⟩ 1 1 [.string (BA nm ++ ⟨#[61]⟩ ++ BA vl)] (by simp [Act.eval]) rfl (fun j u hu => txt_cell rfl j u hu) txt_val (by decide) (by unfold maxLen; omega) (by omega) (by have := (unhide HO).below.size; simp; omega) (wr.heap.size + 1) (by simp) ?_
          intro gg cg w3 hown3 hgrow _ _
          have hne : some g ≠ u3.ownBlock := fun e => by have h1 := (World.ownsRow.lt (unhide HO).row g e.symm).1; have h2 := unhide HG; omega
          have hnb : some b ≠ u3.ownBlock := fun e => by have h1 := (World.ownsRow.lt (unhide HO).row b e.symm).1; have h2 := unhide HBL; omega
          have z2 : w3.cell? ⟨b, 0, none⟩ = some (.slice (some ⟨g, 0, none⟩) n cap) ∧ w3.cell? ⟨g, k * 5, none⟩ = some (.string (BA nm)) ∧ w3.cell? ⟨g, k * 5 + 1, none⟩ = some (.string (BA vl)) := ⟨hgrow.cell z1.1 hnb, hgrow.cell z1.2.1 hne, hgrow.cell z1.2.2 hne⟩
          rw [env_text] at hown3
          have HW3 : Hid (EIn w w3 (.slice (some ⟨gg, 0, none⟩) (l.length + 1) cg) (l ++ [nm ++ [61] ++ vl])) := hide ⟨by rw [List.map_append, List.length_append]; exact hown3, ((unhide HO).below.alloc (unhide HO).below.size _).drew.grown hgrow (by have := (unhide HO).below.size; simp; omega) (fun j hj => (World.ownsRow.lt (unhide HO).row j hj).1)⟩
          clear hown3 hgrow hne hnb
          refine hKK.out _ _ (by exact z2) (fun hHeld => ?_)
          clear hKK KK
          try simp only [Act.put, List.setIfInBounds_toArray, List.set_cons_zero, List.set_cons_succ]
          refine wpAnyH_take (i := 21) (oi := { dst := some 3, op := Op.assign (Operand.tmp 52), type := 22, pos := "ref.go:104", after := #[{ on := 20, ground := Ground.data }, { on := 20, ground := Ground.chain }, { on := 0, ground := Ground.phase }, { on := 1, ground := Ground.phase }, { on := 2, ground := Ground.phase }, { on := 3, ground := Ground.phase }, { on := 4, ground := Ground.phase }, { on := 5, ground := Ground.phase }, { on := 6, ground := Ground.phase }, { on := 7, ground := Ground.phase }, { on := 8, ground := Ground.phase }, { on := 9, ground := Ground.phase }, { on := 10, ground := Ground.phase }, { on := 11, ground := Ground.phase }, { on := 12, ground := Ground.phase }, { on := 13, ground := Ground.phase }, { on := 14, ground := Ground.phase }, { on := 15, ground := Ground.phase }, { on := 16, ground := Ground.phase }, { on := 17, ground := Ground.phase }, { on := 18, ground := Ground.phase }, { on := 19, ground := Ground.phase }, { on := 20, ground := Ground.phase }], guard := none }) (v := ?_) rfl (by kernel_rfl) (by kernel_rfl) (by kernel_rfl) (fun _ _ _ h => h) (Or.inl ⟨by rfl, ?_⟩) (by assumption) ?_
          rotate_left
          · intro w hSw; obtain ⟨s0, s1, s2⟩ := hSw; go_simp; (try rw [if_neg (by omega)]); (try with_reducible rfl)
          simp only [Act.put, List.setIfInBounds_toArray, List.set_cons_zero, List.set_cons_succ]
          clear hHeld
          refine wpAnyH_done (by kernel_rfl) ?_ _
          clear z1 z2
          go_wp2
          go_roundw
          case rel => exact ⟨k + 1, by go_num, by omega, hide (by rw [unhide HT]; simpa using unhide HW3)⟩
          case measure => simp [intOf]; omega
    · have hlt1 : ¬ (k : Int) < (n : Int) := by omega
      have hkn : L.take k = L := List.take_of_length_le (by have := unhide HN; omega)
      rw [hkn] at HO
      have c0 : wr.cell? ⟨b, 0, none⟩ = some (.slice ad n cap) := ((unhide HO).below.cell (p := ⟨b, 0, none⟩) (unhide HBL)).trans (unhide HC0)
      clear hkn
      go_wp2
      go_ret
      have hor := AOwn.of_row (unhide HO).row rfl
      exact ⟨_, rfl, hor.1, hor.2, (unhide HO).below⟩

end Go.Proofs.YtbcbnoeplapblaaGreatDoor

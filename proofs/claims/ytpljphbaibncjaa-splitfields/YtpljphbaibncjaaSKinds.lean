/-
  kindsOf: what each byte is, by ifs.
-/
import Derived.Test.YtpljphbaibncjaaSPure
import Derived.Deep.WholeRow
import Derived.Deep.LoopGhost
import Derived.Laws.ResultCell
namespace Go.Proofs.Ytpljphbaibncjaa
open Go.RowKit

def kz : Array Value := Array.replicate 256 (.int .i64 0)
theorem info_kinds : (Try.prog.info? 52).map (fun i => (i.zero, i.size)) = some (some (.agg kz), 256) := by kernel_rfl
theorem zero_kinds (w : World) : (zeroValue 52).run Try.prog w = .ok (.agg kz) w := by
  cases hi : Try.prog.info? 52 with
  | none => have := info_kinds; rw [hi] at this; cases this
  | some i =>
    have := info_kinds
    rw [hi] at this
    simp at this
    simp [zeroValue, typeInfo, hi, this.1]
theorem wp_load_row {P : Program} {o : Oper} {a : Act} {w : World} {K : Act → World → Prop} {Q : Exit → Act → World → Prop} (x : Operand) (t t' : TypeId) (ho : o.op = .load t x) (g : Nat) (hx : a.eval x = .pointer (some ⟨g, 0, none⟩)) (cs : Array Value) (fr : Nat × Nat) (hg : w.heap[g]? = some (.cells cs t' fr))
    (d : TypeDesc) (hu : P.underlying t = some d) (hd : (match d with | .struct _ | .array _ _ => true | _ => false) = true) (hi : (P.info? t).map (·.size) = some cs.size) (h : K (a.put o.dst (.agg cs)) w) : Oper.wp P o a w K Q := by
  have hr := run_loadVar_row (P := P) w g t' t cs fr d hg hu hd hi
  unfold Oper.wp execOp
  simp only [ho, hx, Instr.loadAt, Instr.sureAddr, Sem.run_bind, Sem.run_pure, Result.andThen_ok, hr]
  exact h
theorem run_storeCells_row {P : Program} (w : World) (g : Nat) (t ty : TypeId) (old cells : Array Value) (hg : w.heap[g]? = some (.cells old t (0, 0))) (hi : (P.info? ty).map (·.size) = some cells.size) (ho : old.size = cells.size) (h1 : cells.all (·.oneCell') = true) :
    (storeCells ⟨g, 0, none⟩ cells.toList 0).run P w = .ok () (w.setRow g cells) := by
  have := run_storeVar_row (P := P) w g t ty old cells hg hi ho h1
  cases hq : P.info? ty with
  | none => simp [hq] at hi
  | some i =>
    have hs : cells.size = i.size := by simp [hq] at hi; omega
    simpa [storeVar, sizeOf, typeInfo, hq, Value.cells, hs] using this
theorem Blk.setRow {w : World} {b : Nat} {t : TypeId} {cs : Array Value} (h : Blk w b t cs) (c : Array Value) : Blk (w.setRow b c) b t c := setRow_heap w b cs c t (0, 0) h
theorem grown_setRow (w : World) (b : Nat) (c : Array Value) : GrownS w (w.setRow b c) (fun k => k = b) := ⟨rfl, rfl, rfl, by simp, fun k _ hk => setRow_other w b k c hk⟩
theorem size_kinds {c : Array Value} (h : c.size = 256) : (Try.prog.info? 52).map (·.size) = some c.size := by
  rw [h]
  have := congrArg (Option.map Prod.snd) info_kinds
  simpa [Option.map_map] using this
/-- What a byte of ifs is. -/
def softB (c : UInt8) : Int := if c == 32 || c == 9 || c == 10 then 1 else 2
def kcells (l : List UInt8) : Array Value := l.foldl (fun a c => a.setIfInBounds c.toNat (.int .i64 (softB c))) kz
theorem kcells_snoc (l : List UInt8) (c : UInt8) : kcells (l ++ [c]) = (kcells l).setIfInBounds c.toNat (.int .i64 (softB c)) := by simp [kcells, List.foldl_append]
theorem kfold_at : ∀ (l : List UInt8) (a : Array Value) (z : Int) (x : UInt8), a[x.toNat]? = some (.int .i64 z) → (l.foldl (fun a c => a.setIfInBounds c.toNat (.int .i64 (softB c))) a)[x.toNat]? = some (.int .i64 (if l.contains x then softB x else z))
  | [], a, z, x, h => by simpa using h
  | c :: l, a, z, x, h => by
    have hsz : x.toNat < a.size := (Array.getElem?_eq_some_iff.1 h).1
    rw [List.foldl_cons]
    by_cases e : c = x
    · subst e
      rw [kfold_at l _ (softB c) c (by rw [Array.getElem?_setIfInBounds_self_of_lt hsz])]
      simp
    · have hne : c.toNat ≠ x.toNat := fun h' => e (UInt8.toNat_inj.1 h')
      rw [kfold_at l _ z x (by rw [Array.getElem?_setIfInBounds_ne hne]; exact h), List.contains_cons]
      have : (x == c) = false := by simpa using fun h' => e h'.symm
      rw [this, Bool.false_or]
theorem kcells_at (l : List UInt8) (x : UInt8) : (kcells l)[x.toNat]? = some (.int .i64 (kindB l x)) := by
  have := kfold_at l kz 0 x (by unfold kz; rw [Array.getElem?_replicate, if_pos (UInt8.toNat_lt x)])
  exact this
theorem kfold_size : ∀ (l : List UInt8) (a : Array Value), (l.foldl (fun a c => a.setIfInBounds c.toNat (Value.int .i64 (softB c))) a).size = a.size
  | [], _ => rfl
  | c :: l, a => by rw [List.foldl_cons, kfold_size l, Array.size_setIfInBounds]
theorem kcells_size (l : List UInt8) : (kcells l).size = 256 := by
  unfold kcells
  rw [kfold_size]
  simp [kz]
theorem kcells_one (l : List UInt8) : (kcells l).all (·.oneCell') = true := by
  rw [Array.all_eq_true_iff_forall_mem]
  intro v hv
  obtain ⟨j, hj, rfl⟩ := Array.getElem_of_mem hv
  rw [kcells_size] at hj
  have hx : (UInt8.ofNat j).toNat = j := by simp [UInt8.toNat_ofNat']; omega
  have := kcells_at l (UInt8.ofNat j)
  rw [hx, Array.getElem?_eq_getElem (by rw [kcells_size]; exact hj)] at this
  rw [Option.some.inj this]
  rfl

set_option maxRecDepth 1000000 in
set_option maxHeartbeats 4000000 in
theorem kinds_all (s : ByteArray) (w : World) (hl : s.size ≤ 100000) :
    Calls Try.prog 21 #[.string s] w fun e w' => e = .returned (.agg (kcells s.data.toList)) ∧ Below w.heap.size w w' := by
  have hzk := zero_kinds
  have HB : Hid (∀ c d, Below w.heap.size w ((w.alloc (.cells c 52)).alloc (.cells d 52))) := hide (fun c d => ((Below.refl _ w).alloc (Nat.le_refl _) _).alloc (by simp) _)
  go_enter Try.func21, Try.ntmps21
  go_wp2
  go_loopw [8] (fun i wr => ∃ k : Nat, k ≤ s.size ∧ i = .int .i64 k ∧ wr = (w.alloc (.cells kz 52)).alloc (.cells (kcells (s.data.toList.take k)) 52)) (fun i _ => s.size - (intOf i).toNat)
  case atStart => exact ⟨0, Nat.zero_le _, rfl, rfl⟩
  case round =>
    obtain ⟨k, hk, rfl, rfl⟩ := hrel
    by_cases hlt : k < s.size
    · obtain ⟨x, hx⟩ : ∃ x : UInt8, s[k]'hlt = x := ⟨_, rfl⟩
      have HX : Hid (s.data.toList.take (k + 1) = s.data.toList.take k ++ [x]) := hide (by rw [← hx, List.take_add_one, List.getElem?_eq_getElem (by rw [data_len]; exact hlt), data_get s k hlt]; rfl)
      have hc := kcells_at (s.data.toList.take k) x
      have hx2 : (x.toNat : Int) < 256 := by have := UInt8.toNat_lt x; omega
      have HE : Hid (∀ j : Nat, (softB x = if (x.toNat == 32) || (x.toNat == 9) || (x.toNat == 10) then 1 else 2)) := hide (fun _ => by
        unfold softB
        have e : ∀ n : Nat, n < 256 → (x == UInt8.ofNat n) = (x.toNat == n) := fun n hn => by
          rw [Bool.eq_iff_iff, beq_iff_eq, beq_iff_eq]
          constructor
          · rintro rfl
            rw [UInt8.toNat_ofNat']
            omega
          · rintro rfl
            simp
        rw [show (x == 32) = (x.toNat == 32) from e 32 (by omega), show (x == 9) = (x.toNat == 9) from e 9 (by omega), show (x == 10) = (x.toNat == 10) from e 10 (by omega)])
      cases h1 : ((x.toNat : Int) == 32) with
      | true =>
        have HS : Hid (softB x = 1) := hide (by rw [unhide HE 0, show (x.toNat == 32) = true by have := eq_of_beq h1; rw [beq_iff_eq]; omega]; rfl)
        go_wp2
        go_roundw
        case rel => exact ⟨k + 1, by omega, by go_num, by rw [unhide HX, kcells_snoc, unhide HS]⟩
        case measure => simp [intOf]; omega
      | false =>
        cases h2 : ((x.toNat : Int) == 9) with
        | true =>
          have HS : Hid (softB x = 1) := hide (by rw [unhide HE 0, show (x.toNat == 9) = true by have := eq_of_beq h2; rw [beq_iff_eq]; omega]; simp)
          go_wp2
          go_roundw
          case rel => exact ⟨k + 1, by omega, by go_num, by rw [unhide HX, kcells_snoc, unhide HS]⟩
          case measure => simp [intOf]; omega
        | false =>
          cases h3 : ((x.toNat : Int) == 10) with
          | true =>
            have HS : Hid (softB x = 1) := hide (by rw [unhide HE 0, show (x.toNat == 10) = true by have := eq_of_beq h3; rw [beq_iff_eq]; omega]; simp)
            go_wp2
            go_roundw
            case rel => exact ⟨k + 1, by omega, by go_num, by rw [unhide HX, kcells_snoc, unhide HS]⟩
            case measure => simp [intOf]; omega
          | false =>
            have HS : Hid (softB x = 2) := hide (by
              have e1 : (x.toNat == 32) = false := by have := beq_eq_false_iff_ne.1 h1; rw [beq_eq_false_iff_ne]; omega
              have e2 : (x.toNat == 9) = false := by have := beq_eq_false_iff_ne.1 h2; rw [beq_eq_false_iff_ne]; omega
              have e3 : (x.toNat == 10) = false := by have := beq_eq_false_iff_ne.1 h3; rw [beq_eq_false_iff_ne]; omega
              rw [unhide HE 0, e1, e2, e3]; rfl)
            go_wp2
            go_roundw
            case rel => exact ⟨k + 1, by omega, by go_num, by rw [unhide HX, kcells_snoc, unhide HS]⟩
            case measure => simp [intOf]; omega
    · rw [show s.data.toList.take k = s.data.toList from List.take_of_length_le (by rw [data_len]; omega)]
      have k2 : Blk ((w.alloc (.cells kz 52)).alloc (.cells (kcells s.data.toList) 52)) (w.heap.size + 1) 52 (kcells s.data.toList) := by simpa using Blk.new (w.alloc (.cells kz 52)) 52 (kcells s.data.toList)
      have k1 : Blk ((w.alloc (.cells kz 52)).alloc (.cells (kcells s.data.toList) 52)) w.heap.size 52 kz := (Blk.new w 52 kz).alloc _
      have K2 := hide k2
      have K1 := hide k1
      clear k1 k2
      obtain ⟨W, hW⟩ : ∃ x, x = (w.alloc (.cells kz 52)).alloc (.cells (kcells s.data.toList) 52) := ⟨_, rfl⟩
      have HBW : Hid (Below w.heap.size w W) := hide (hW ▸ unhide HB _ _)
      rw [← hW] at K1 K2 ⊢
      clear hW HB
      go_wp2
      have hsz := kcells_size s.data.toList
      have hsc := run_storeCells_row (P := Try.prog) W w.heap.size 52 52 kz (kcells s.data.toList) (unhide K1) (size_kinds (kcells_size _)) (by rw [kcells_size]; rfl) (kcells_one _)
      refine wp_load_row (.tmp 3) 52 52 rfl (w.heap.size + 1) rfl (kcells s.data.toList) (0, 0) (unhide K2) _ Try.underlying52 rfl (size_kinds (kcells_size _)) ?_
      go_wp2
      refine bodyPost_ret (results_cell_row (P := Try.prog) rfl _ _ w.heap.size 52 (kcells s.data.toList) (0, 0) _ rfl ((unhide K1).setRow _) Try.underlying52 rfl (size_kinds (kcells_size _))) rfl ⟨rfl, (unhide HBW).trans ((grown_setRow _ _ _).below (unhide HBW).size (fun k e => by omega))⟩
theorem kinds_any (l : List UInt8) (w : World) (hl : l.length ≤ 100000) : Calls Try.prog 21 #[.string (BA l)] w fun e w' => e = .returned (.agg (kcells l)) ∧ Below w.heap.size w w' := kinds_all (BA l) w hl

end Go.Proofs.Ytpljphbaibncjaa

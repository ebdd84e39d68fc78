/- Things end where they end, whatever stands behind them.; A thing ends where it ends, whatever stands behind it.; A text in place: the lexer's 'takeUp'. -/
import Derived.Test.YtojjfdobilkknaaGreatDoorM01
import Derived.Test.YtojjfdobilkknaaGreatDoorM05
set_option maxRecDepth 20000
set_option maxHeartbeats 4000000
namespace Go.Proofs.YtojjfdobilkknaaGreatDoor
theorem dw_suf (p : UInt8 → Bool) (l : List UInt8) : ∃ t, l = t ++ l.dropWhile p := ⟨l.takeWhile p, List.takeWhile_append_dropWhile.symm⟩
theorem suf_all : ∀ f : Nat, (∀ l wh d r, thg f l wh d = .ok r → ∃ t, l = t ++ r) ∧ (∀ l fr e wh d r, cls f l fr e wh d = .ok r → ∃ t, l = t ++ r) ∧ (∀ l fr e wh d r, lop f l fr e wh d = .ok r → ∃ t, l = t ++ r)
 | 0 => ⟨fun l wh d r h => by rw [thg] at h; injection h with h; exact ⟨[], h⟩, fun l fr e wh d r h => by rw [cls] at h; injection h with h; exact ⟨[], h⟩, fun l fr e wh d r h => by rw [lop] at h; injection h with h; exact ⟨[], h⟩⟩
 | f + 1 => by
   obtain ⟨iT, iC, iL⟩ := suf_all f
   refine ⟨fun l wh d r h => ?_, fun l fr e wh d r h => ?_, fun l fr e wh d r h => ?_⟩
   ·cases l with
    | nil => rw [thg] at h; injection h with h; exact ⟨[], h⟩
    | cons c l =>
      have hok : ∀ x, Rs.ok x = .ok r → (∃ t, l = t ++ x) → ∃ t, c :: l = t ++ r := by
       intro x hx ⟨t, ht⟩
       injection hx with hx
       subst hx
       exact ⟨c :: t, by rw [List.cons_append, ← ht]⟩
      have hd1 : ∃ t, l = t ++ l.drop 1 := ⟨l.take 1, (List.take_append_drop 1 l).symm⟩
      have hcl : ∀ m fr e wh, cls f m fr e wh d = .ok r → (∃ t, l = t ++ m) → ∃ t, c :: l = t ++ r := by
       intro m fr e wh h ⟨t, ht⟩
       obtain ⟨u, hu⟩ := iC _ _ _ _ _ _ h
       exact ⟨c :: t ++ u, by rw [ht, hu]; simp⟩
      rw [thg_succ] at h
      split at h
      ·exact hok _ h hd1
      split at h
      ·split at h
       ·exact hok _ h ⟨[], rfl⟩
       ·exact hcl _ _ _ _ h ⟨[], rfl⟩
      split at h
      ·split at h
       ·exact hok _ h ⟨[], rfl⟩
       ·split at h
        ·cases h
        ·next x r' hx =>
         obtain ⟨t, ht⟩ := dw_suf (fun x => x != 39) l
         exact hok _ h ⟨t ++ [x], by rw [hx] at ht; rw [ht]; simp⟩
      split at h
      ·split at h
       ·exact hcl _ _ _ _ h hd1
       ·split at h
        ·exact hcl _ _ _ _ h hd1
        ·exact hok _ h ⟨[], rfl⟩
      split at h
      ·split at h
       ·exact hcl _ _ _ _ h ⟨[], rfl⟩
       ·exact hok _ h ⟨[], rfl⟩
      split at h
      ·cases h
      ·exact hok _ h ⟨[], rfl⟩
   ·rw [cls_succ] at h
    split at h
    ·cases h
    ·exact iL _ _ _ _ _ _ h
   ·cases l with
    | nil => rw [lop_nil] at h; cases h
    | cons c l =>
      rw [lop_succ] at h
      split at h
      ·injection h with h
       subst h
       exact ⟨[c], rfl⟩
      ·split at h
       ·cases h
       ·next l' hl =>
        obtain ⟨t, ht⟩ := iT _ _ _ _ hl
        obtain ⟨u, hu⟩ := iL _ _ _ _ _ _ h
        exact ⟨t ++ u, by rw [ht, hu]; simp⟩
theorem thg_suf {f : Nat} {l r : List UInt8} {wh d : Nat} (h : thg f l wh d = .ok r) : ∃ t, l = t ++ r := (suf_all f).1 l wh d r h
theorem lop_suf {f : Nat} {l fr r : List UInt8} {e : UInt8} {wh d : Nat} (h : lop f l fr e wh d = .ok r) : ∃ t, l = t ++ r := (suf_all f).2.2 l fr e wh d r h
theorem thg_lt {f : Nat} {c : UInt8} {l r : List UInt8} {wh d : Nat} (h : thg (f + 1) (c :: l) wh d = .ok r) : r.length ≤ l.length := by
 have := thg_len f c l wh d
 rw [h] at this
 exact this
theorem lop_lt : ∀ (f : Nat) {l fr r : List UInt8} {e : UInt8} {wh d : Nat}, lop (f + 1) l fr e wh d = .ok r → 3 * l.length + 4 ≤ f + 1 → r.length < l.length := by
 intro f l fr r e wh d h hf
 cases l with
 | nil => rw [lop_nil] at h; cases h
 | cons c l =>
   rw [lop_succ] at h
   split at h
   ·injection h with h
    subst h
    simp
   ·split at h
    ·cases h
    ·next l' hl =>
     simp at hf
     obtain ⟨g, rfl⟩ : ∃ g, f = g + 1 := ⟨f - 1, by omega⟩
     have h1 := thg_lt hl
     obtain ⟨u, hu⟩ := lop_suf h
     have h2 := congrArg List.length hu
     rw [List.length_append] at h2
     simp
     omega
end Go.Proofs.YtojjfdobilkknaaGreatDoor
namespace Go.Proofs.YtojjfdobilkknaaGreatDoor
open Go.RowKit
theorem wordL_nil (f : Nat) : wordL f [] = .ok [] := by cases f <;> rfl
theorem wordL_cons (f : Nat) (c : UInt8) (r : List UInt8) : wordL (f + 1) (c :: r) = if metB (c.toNat : Int) then .ok (c :: r) else match thg (3 * (r.length + 1) + 3) (c :: r) 0 0 with
 | .err e m => .err e m
 | .ok l => wordL f l := rfl
theorem wordL_suf : ∀ (f : Nat) {l r : List UInt8}, wordL f l = .ok r → ∃ t, l = t ++ r
 | 0, l, r, h => by
   have h : Rs.ok l = .ok r := h
   injection h with h
   exact ⟨[], h⟩
 | f + 1, [], r, h => by
   rw [wordL_nil] at h
   injection h with h
   exact ⟨[], h⟩
 | f + 1, c :: l, r, h => by
   rw [wordL_cons] at h
   split at h
   ·injection h with h; exact ⟨[], h⟩
   ·split at h
    ·cases h
    ·next l' hl =>
     obtain ⟨t, ht⟩ := thg_suf hl
     obtain ⟨u, hu⟩ := wordL_suf f h
     exact ⟨t ++ u, by rw [ht, hu]; simp⟩
def wtCells (q : Nat) (en : ByteArray) (tabs : Bool) : Array Value := #[.pointer (some ⟨q, 0, none⟩), .string en, .bool tabs]
theorem takeUp_bad (w : World) (b : Nat) (tl : List Value) (s : ByteArray) (p d : Nat) (f bl : Int) (k q : Nat) (en : ByteArray) (tabs : Bool) (t : Tok) (h : Rdr w b 71 tl s p d f bl) (hf : f ≠ 0) (hk : Blk w k 77 (wtCells q en tabs)) (hq : Blk w q 74 t.cells) :
 Calls Tryz.prog 70 #[.pointer (some ⟨b, 0, none⟩), .pointer (some ⟨k, 0, none⟩)] w fun e w' => e = .returned (.tuple #[]) ∧ Below w.heap.size w w' := by
 have hmb : moreB s p f = false := by unfold moreB; rw [show (f == 0) = false by simpa using hf]; rfl
 obtain ⟨o, ho⟩ : ∃ o, o = Obj.cells #[.pointer none, .slice none 0 0] 118 := ⟨_, rfl⟩
 have h' := h.kept (World.grownBy_alloc w o none)
 have hmo := more_any h'
 rw [hmb] at hmo
 have HMO := hide hmo
 have H' := hide h'
 have k0 : (w.alloc o).cell? ⟨k, 0, none⟩ = some (.pointer (some ⟨q, 0, none⟩)) := (hk.alloc o).cell 0 rfl
 have q2 : (w.alloc o).cell? ⟨q, 2, none⟩ = some (.int .i64 t.pos) := (hq.alloc o).cell 2 rfl
 have HB := hide ((Below.refl w.heap.size w).alloc (ler _) o)
 clear hmo hmb h h' hk hq
 go_enter Tryz.func70, Tryz.ntmps70
 go_wp2_with fail
 rw [← ho]
 obtain ⟨wA, hwA⟩ : ∃ x, x = w.alloc o := ⟨_, rfl⟩
 rw [← hwA] at HMO H' k0 q2 HB
 rw [← hwA]
 clear hwA ho
 go_loopw [9] (fun _ wr => wr = wA) (fun _ _ => 0)
 case atStart => rfl
 case round =>
  subst hrel
  go_wp2_with fail
  refine (uh HMO).mono ?_
  rintro en w1 ⟨rfl, k1, hw1⟩
  have k0' : w1.cell? ⟨k, 0, none⟩ = some (.pointer (some ⟨q, 0, none⟩)) := by rw [hw1]; exact k0
  have q2' : w1.cell? ⟨q, 2, none⟩ = some (.int .i64 t.pos) := by rw [hw1]; exact q2
  have HF := hide (fun n => fail_not 12 t.pos (show Rdr (w1.drewN n) b 71 tl s p d f bl by rw [hw1]; exact ((uh H').kept (gdn _ _)).kept (gdn _ _)) hf)
  have HB' : Hid (Below w.heap.size w w1) := hide (by rw [hw1]; exact (uh HB).trans ((bdr _ _).mono (uh HB).size))
  clear hw1 k0 q2 hf HMO H' HB
  go_wp2_with fail
  go_quiet ((go_at_call 30; exact Calls.quiet_of_same (uh HF _)))
  go_wp2
  refine bodyPost_end (res0 rfl _ _) rfl ?_
  exact ⟨rfl, (uh HB').trans ((bdr _ _).mono (uh HB').size)⟩
end Go.Proofs.YtojjfdobilkknaaGreatDoor

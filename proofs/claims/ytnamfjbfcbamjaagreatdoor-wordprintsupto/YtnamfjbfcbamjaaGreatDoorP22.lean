/-
  Package word's page while a word is written: what may be cut, and which blocks stand.
  Package word: put of three texts, sign, and the pen for the Word of a part.
  Package word: the pen for the Word of a part.
  What it is to write a word; the blocks of a part and of a pen.
-/
import Derived.Test.YtnamfjbfcbamjaaGreatDoorP19
import Derived.Deep.DeepCutAuto
import Derived.Deep.CutRange
namespace Go.Proofs.YtnamfjbfcbamjaaGreatDoor
open Go.RowKit
def PgC (w : World) (b : Nat) (X : Nat → Prop) (full : List UInt8) : Prop := ∃ l, Pg w b X l ∧ Cut l full
theorem PgC.below {w w1 : World} {b : Nat} {X : Nat → Prop} {l : List UInt8} (h : PgC w b X l) (hb : Below w.heap.size w w1) : PgC w1 b X l := by
  obtain ⟨o, h1, h2⟩ := h
  exact ⟨o, h1.below hb, h2⟩
theorem PgC.hi {w : World} {b : Nat} {X : Nat → Prop} {l : List UInt8} (h : PgC w b X l) : ∀ k, X k → k < w.heap.size := by
  obtain ⟨o, h1, h2⟩ := h
  exact h1.hi
theorem PgC.lo {w : World} {b : Nat} {X : Nat → Prop} {l : List UInt8} (h : PgC w b X l) : ∀ k, X k → b ≤ k := by
  obtain ⟨o, h1, h2⟩ := h
  exact h1.lo
theorem PgC.lt {w : World} {b : Nat} {X : Nat → Prop} {l : List UInt8} (h : PgC w b X l) : b < w.heap.size := by
  obtain ⟨o, h1, h2⟩ := h
  exact h1.lt
def Wrote (w : World) (b : Nat) (X : Nat → Prop) (full : List UInt8) (w' : World) : Prop := ∃ X', PgC w' b X' full ∧ GrownS w w' X ∧ ∀ k, X' k → X k ∨ w.heap.size ≤ k
theorem Wrote.of {w w' : World} {b : Nat} {X : Nat → Prop} {l full : List UInt8} (h : Puts w b X l w') (hc : Cut l full) : Wrote w b X full w' := by
  obtain ⟨X', h1, h2, h3⟩ := h
  exact ⟨X', ⟨l, h1, hc⟩, h2, h3⟩
theorem Wrote.refl {w : World} {b : Nat} {X : Nat → Prop} {l : List UInt8} (h : PgC w b X l) : Wrote w b X l w := ⟨X, h, grownS_of_below (Below.refl _ _), fun _ h => .inl h⟩
def Sd (w : World) (b : Nat) (X : Nat → Prop) (m : Nat) (K : Nat → TypeId → Array Value → Prop) (full : List UInt8) (wi : World) : Prop :=
  (∀ q t cs, K q t cs → Blk wi q t cs ∧ w.heap.size ≤ q ∧ q < w.heap.size + m) ∧ (∀ k, X k → 3 ≤ k ∧ k < w.heap.size) ∧ w.heap.size + m ≤ wi.heap.size ∧ ∃ Xi, PgC wi b Xi full ∧ GrownS w wi X ∧ ∀ k, Xi k → X k ∨ w.heap.size + m ≤ k
theorem Sd.start {w wi : World} {b m : Nat} {X : Nat → Prop} {K : Nat → TypeId → Array Value → Prop} {full : List UInt8} (h : PgC w b X full) (hb3 : 3 ≤ b) (hb : Below w.heap.size w wi) (hm : w.heap.size + m ≤ wi.heap.size) (hK : ∀ q t cs, K q t cs → Blk wi q t cs ∧ w.heap.size ≤ q ∧ q < w.heap.size + m) : Sd w b X m K full wi :=
  ⟨hK, fun k hk => ⟨by have := h.lo k hk; omega, h.hi k hk⟩, hm, X, h.below hb, grownS_of_below hb, fun _ h => .inl h⟩
theorem Sd.wrote {w wi : World} {b m : Nat} {X : Nat → Prop} {K : Nat → TypeId → Array Value → Prop} {full : List UInt8} (h : Sd w b X m K full wi) : Wrote w b X full wi := by
  obtain ⟨h1, h2, h3, Xi, h4, h5, h6⟩ := h
  exact ⟨Xi, h4, h5, fun k hk => (h6 k hk).imp (fun e => e) (fun e => by omega)⟩
theorem Sd.size {w wi : World} {b m : Nat} {X : Nat → Prop} {K : Nat → TypeId → Array Value → Prop} {full : List UInt8} (h : Sd w b X m K full wi) : w.heap.size + m ≤ wi.heap.size := h.2.2.1
theorem Sd.blk {w wi : World} {b m : Nat} {X : Nat → Prop} {K : Nat → TypeId → Array Value → Prop} {full : List UInt8} (h : Sd w b X m K full wi) {q : Nat} {t : TypeId} {cs : Array Value} (hk : K q t cs) : Blk wi q t cs := (h.1 q t cs hk).1
theorem Sd.env {w wi : World} {b m : Nat} {X : Nat → Prop} {K : Nat → TypeId → Array Value → Prop} {full : List UInt8} (h : Sd w b X m K full wi) (he : WEnv w) : WEnv wi := by
  obtain ⟨h1, h2, h3, Xi, h4, h5, h6⟩ := h
  exact he.grown h5 (fun k hk => (h2 k hk).1)
theorem Sd.wat {w wi : World} {b m : Nat} {X : Nat → Prop} {K : Nat → TypeId → Array Value → Prop} {full : List UInt8} (h : Sd w b X m K full wi) {A : Nat → Prop} {v : Value} {s : List Prt} (hv : WAt w A v s) (hA : ∀ j, A j → j < w.heap.size ∧ ¬ X j) : WAt wi A v s := by
  obtain ⟨h1, h2, h3, Xi, h4, h5, h6⟩ := h
  exact hv.kept (fun k hk => h5.block k (hA k hk).1 (hA k hk).2) (fun _ h => h)
theorem Sd.below {w wi wj : World} {b m : Nat} {X : Nat → Prop} {K : Nat → TypeId → Array Value → Prop} {full : List UInt8} (h : Sd w b X m K full wi) (hb : Below wi.heap.size wi wj) : Sd w b X m K full wj := by
  obtain ⟨h1, h2, h3, Xi, h4, h5, h6⟩ := h
  refine ⟨fun q t cs hk => ?_, h2, Nat.le_trans h3 hb.size, Xi, h4.below hb, h5.trans (grownS_of_below hb), h6⟩
  obtain ⟨g1, g2, g3⟩ := h1 q t cs hk
  exact ⟨g1.below hb g1.lt, g2, g3⟩
theorem Sd.go {w wi wj : World} {b m f : Nat} {X : Nat → Prop} {K : Nat → TypeId → Array Value → Prop} {full full' : List UInt8} {args : Array Value} {r : Ending} (h : Sd w b X m K full wi)
    (H : ∀ Xi, PgC wi b Xi full → (∀ k, Xi k → X k ∨ w.heap.size + m ≤ k) → Calls Tryz.prog f args wj fun e w' => e = r ∧ Wrote wi b Xi full' w') : Calls Tryz.prog f args wj fun e w' => e = r ∧ Sd w b X m K full' w' := by
  obtain ⟨h1, h2, h3, Xi, h4, h5, h6⟩ := h
  refine (H Xi h4 h6).mono ?_
  rintro e w' ⟨rfl, X', g1, g2, g3⟩
  refine ⟨rfl, fun q t cs hk => ?_, h2, Nat.le_trans h3 g2.size, X', g1, h5.trans2 g2 (fun k hk e => ?_), fun k hk => ?_⟩
  · obtain ⟨k1, k2, k3⟩ := h1 q t cs hk
    refine ⟨k1.grownS g2 (fun e => ?_), k2, k3⟩
    rcases h6 q e with e | e
    · have := (h2 q e).2; omega
    · omega
  · rcases h6 k e with e | e
    · exact e
    · omega
  · rcases g3 k hk with e | e
    · exact h6 k e
    · exact .inr (by omega)
theorem Sd.put {w wi : World} {b m n : Nat} {X : Nat → Prop} {K : Nat → TypeId → Array Value → Prop} {full : List UInt8} (h : Sd w b X m K full wi) (t : List UInt8) (hn : wi.heap.size = n) (hl : full.length + t.length ≤ 1000000) :
    Calls Tryz.prog 66 #[.pointer (some ⟨b, 0, none⟩), .slice (some ⟨n, 0, none⟩) 1 1] (wi.alloc (.cells #[.string (BA t)] 9)) fun e w' => e = .returned (.tuple #[]) ∧ Sd w b X m K (full ++ t) w' :=
  h.go (fun Xi ⟨l, hp, hc⟩ _ => (put_new t wi n b Xi l hn hp (by have := hc.len; omega)).mono (fun e w' ⟨h1, h2⟩ => ⟨h1, Wrote.of h2 (hc.app t)⟩))
end Go.Proofs.YtnamfjbfcbamjaaGreatDoor
namespace Go.Proofs.YtnamfjbfcbamjaaGreatDoor
open Go.RowKit
set_option maxRecDepth 20000 in
set_option maxHeartbeats 4000000 in
theorem put_three (t0 t1 t2 : List UInt8) (w : World) (b q : Nat) (X : Nat → Prop) (l : List UInt8) (h : Pg w b X l) (hq : Blk w q 9 #[.string (BA t0), .string (BA t1), .string (BA t2)]) (hqX : ¬ X q) (h0 : t0.length ≤ 10) (h1 : t1.length ≤ 200000) (h2 : t2.length ≤ 10) (hl : l.length ≤ 200000) :
    Calls Tryz.prog 66 #[.pointer (some ⟨b, 0, none⟩), .slice (some ⟨q, 0, none⟩) 3 3] w fun e w' => e = .returned (.tuple #[]) ∧ Puts w b X (l ++ t0 ++ t1 ++ t2) w' := by
  obtain ⟨i0, hi, hz0, hz1, hz2⟩ := info_of info_byte
  have HS : Hid (Puts w b X l w) := hide (Puts.refl h)
  have HQ := hide hq
  clear h hq
  go_enter Tryz.func66, Tryz.ntmps66
  go_wp2_with fail
  go_loopw [8] (fun i wr => ∃ k : Nat, i = .int .i64 k ∧ ((k = 0 ∧ Hid (Puts w b X l wr)) ∨ (k = 1 ∧ Hid (Puts w b X (l ++ t0) wr)) ∨ (k = 2 ∧ Hid (Puts w b X (l ++ t0 ++ t1) wr)) ∨ (k = 3 ∧ Hid (Puts w b X (l ++ t0 ++ t1 ++ t2) wr)))) (fun i _ => 3 - (intOf i).toNat)
  case atStart => exact ⟨0, rfl, .inl ⟨rfl, HS⟩⟩
  case round =>
    clear HS
    obtain ⟨k, rfl, ⟨rfl, HD0⟩ | ⟨rfl, HD0⟩ | ⟨rfl, HD0⟩ | ⟨rfl, HD⟩⟩ := hrel
    · obtain ⟨X1, hP, hG, hX⟩ := unhide HD0
      obtain ⟨hQ, hQX⟩ := blk_puts (unhide HQ) hG hX hqX
      have q0 : wr.cell? ⟨q, 0, none⟩ = some (.string (BA t0)) := hQ.cell 0 rfl
      have hbw := hP.lt
      have hcl : l.length ≤ 900000 := by first | omega | (simp; omega)
      obtain ⟨cur, hcur⟩ : ∃ c, l = c := ⟨_, rfl⟩
      rw [hcur] at hP hcl
      have HCUR := hide hcur
      clear hcur
      obtain ⟨bv, h1, h2, h3, h4, h5, h6⟩ := hP
      obtain ⟨ba, bn, bc, rfl⟩ := slice_own h2
      have c0 : wr.cell? ⟨b, 0, none⟩ = some (.slice ba bn bc) := h1.cell 0 rfl
      have HO := hide h2
      have HST : Hid (∀ w1 v', w1.ownsRow (b + 1) 5 1 v' (cur.length + (BA t0).size) (Lib.byteCells cur ++ Lib.strCells (BA t0)) → wr.grownBy w1 (Value.ownBlock (.slice ba bn bc)) → (∀ k, v'.ownBlock = some k → Value.ownBlock (.slice ba bn bc) = some k ∨ wr.heap.size ≤ k) → w1.cell? ⟨b, 0, none⟩ = some (.slice ba bn bc) ∧ w1.frozen? ⟨b, 0, none⟩ = false ∧ Puts wr b X1 (cur ++ t0) (w1.setCell ⟨b, 0, none⟩ v')) := hide (fun w1 v' a b' c => pg_step h1 h2 h3 h4 h5 h6 a b' c)
      have HG := hide hG
      have HX := hide hX
      clear h1 h2 h3 h4 h5 h6 hQ hQX hG hX
      go_wp2_with (first
        | (at_builtin; refine wpList_append_str rfl (.tmp 16) (.tmp 17) 49 9 rfl (b + 1) 5 i0 und_bytes und_str hi hz0 hz1 hz2 (.slice ba bn bc) cur.length (Lib.byteCells cur) rfl (unhide HO) (BA t0) rfl (by unfold maxLen; simp; omega) (by simp; omega) (by omega) ?_)
        | go_in)
      intro v' w1 hown hgrow hat
      obtain ⟨va, vn, vc, rfl⟩ := slice_own hown
      obtain ⟨d0, z0, hP⟩ := unhide HST w1 _ hown hgrow hat
      rw [← unhide HCUR] at hP
      have HD := hide (Puts.trans (unhide HG) (unhide HX) hP)
      clear hown hgrow hat hP
      go_wp2
      go_roundw
      case rel => exact ⟨1, rfl, .inr (.inl ⟨rfl, HD⟩)⟩
      case measure => simp [intOf]
    · obtain ⟨X1, hP, hG, hX⟩ := unhide HD0
      obtain ⟨hQ, hQX⟩ := blk_puts (unhide HQ) hG hX hqX
      have q0 : wr.cell? ⟨q, 1, none⟩ = some (.string (BA t1)) := hQ.cell 1 rfl
      have hbw := hP.lt
      have hcl : (l ++ t0).length ≤ 900000 := by first | omega | (simp; omega)
      obtain ⟨cur, hcur⟩ : ∃ c, (l ++ t0) = c := ⟨_, rfl⟩
      rw [hcur] at hP hcl
      have HCUR := hide hcur
      clear hcur
      obtain ⟨bv, h1, h2, h3, h4, h5, h6⟩ := hP
      obtain ⟨ba, bn, bc, rfl⟩ := slice_own h2
      have c0 : wr.cell? ⟨b, 0, none⟩ = some (.slice ba bn bc) := h1.cell 0 rfl
      have HO := hide h2
      have HST : Hid (∀ w1 v', w1.ownsRow (b + 1) 5 1 v' (cur.length + (BA t1).size) (Lib.byteCells cur ++ Lib.strCells (BA t1)) → wr.grownBy w1 (Value.ownBlock (.slice ba bn bc)) → (∀ k, v'.ownBlock = some k → Value.ownBlock (.slice ba bn bc) = some k ∨ wr.heap.size ≤ k) → w1.cell? ⟨b, 0, none⟩ = some (.slice ba bn bc) ∧ w1.frozen? ⟨b, 0, none⟩ = false ∧ Puts wr b X1 (cur ++ t1) (w1.setCell ⟨b, 0, none⟩ v')) := hide (fun w1 v' a b' c => pg_step h1 h2 h3 h4 h5 h6 a b' c)
      have HG := hide hG
      have HX := hide hX
      clear h1 h2 h3 h4 h5 h6 hQ hQX hG hX
      go_wp2_with (first
        | (at_builtin; refine wpList_append_str rfl (.tmp 16) (.tmp 17) 49 9 rfl (b + 1) 5 i0 und_bytes und_str hi hz0 hz1 hz2 (.slice ba bn bc) cur.length (Lib.byteCells cur) rfl (unhide HO) (BA t1) rfl (by unfold maxLen; simp; omega) (by simp; omega) (by omega) ?_)
        | go_in)
      intro v' w1 hown hgrow hat
      obtain ⟨va, vn, vc, rfl⟩ := slice_own hown
      obtain ⟨d0, z0, hP⟩ := unhide HST w1 _ hown hgrow hat
      rw [← unhide HCUR] at hP
      have HD := hide (Puts.trans (unhide HG) (unhide HX) hP)
      clear hown hgrow hat hP
      go_wp2
      go_roundw
      case rel => exact ⟨2, rfl, .inr (.inr (.inl ⟨rfl, HD⟩))⟩
      case measure => simp [intOf]
    · obtain ⟨X1, hP, hG, hX⟩ := unhide HD0
      obtain ⟨hQ, hQX⟩ := blk_puts (unhide HQ) hG hX hqX
      have q0 : wr.cell? ⟨q, 2, none⟩ = some (.string (BA t2)) := hQ.cell 2 rfl
      have hbw := hP.lt
      have hcl : (l ++ t0 ++ t1).length ≤ 900000 := by first | omega | (simp; omega)
      obtain ⟨cur, hcur⟩ : ∃ c, (l ++ t0 ++ t1) = c := ⟨_, rfl⟩
      rw [hcur] at hP hcl
      have HCUR := hide hcur
      clear hcur
      obtain ⟨bv, h1, h2, h3, h4, h5, h6⟩ := hP
      obtain ⟨ba, bn, bc, rfl⟩ := slice_own h2
      have c0 : wr.cell? ⟨b, 0, none⟩ = some (.slice ba bn bc) := h1.cell 0 rfl
      have HO := hide h2
      have HST : Hid (∀ w1 v', w1.ownsRow (b + 1) 5 1 v' (cur.length + (BA t2).size) (Lib.byteCells cur ++ Lib.strCells (BA t2)) → wr.grownBy w1 (Value.ownBlock (.slice ba bn bc)) → (∀ k, v'.ownBlock = some k → Value.ownBlock (.slice ba bn bc) = some k ∨ wr.heap.size ≤ k) → w1.cell? ⟨b, 0, none⟩ = some (.slice ba bn bc) ∧ w1.frozen? ⟨b, 0, none⟩ = false ∧ Puts wr b X1 (cur ++ t2) (w1.setCell ⟨b, 0, none⟩ v')) := hide (fun w1 v' a b' c => pg_step h1 h2 h3 h4 h5 h6 a b' c)
      have HG := hide hG
      have HX := hide hX
      clear h1 h2 h3 h4 h5 h6 hQ hQX hG hX
      go_wp2_with (first
        | (at_builtin; refine wpList_append_str rfl (.tmp 16) (.tmp 17) 49 9 rfl (b + 1) 5 i0 und_bytes und_str hi hz0 hz1 hz2 (.slice ba bn bc) cur.length (Lib.byteCells cur) rfl (unhide HO) (BA t2) rfl (by unfold maxLen; simp; omega) (by simp; omega) (by omega) ?_)
        | go_in)
      intro v' w1 hown hgrow hat
      obtain ⟨va, vn, vc, rfl⟩ := slice_own hown
      obtain ⟨d0, z0, hP⟩ := unhide HST w1 _ hown hgrow hat
      rw [← unhide HCUR] at hP
      have HD := hide (Puts.trans (unhide HG) (unhide HX) hP)
      clear hown hgrow hat hP
      go_wp2
      go_roundw
      case rel => exact ⟨3, rfl, .inr (.inr (.inr ⟨rfl, HD⟩))⟩
      case measure => simp [intOf]
    · go_wp2
      refine bodyPost_end (res0 rfl _ _) rfl ?_
      exact ⟨rfl, unhide HD⟩
theorem Sd.put3 {w wi : World} {b m n : Nat} {X : Nat → Prop} {K : Nat → TypeId → Array Value → Prop} {full : List UInt8} (h : Sd w b X m K full wi) (t0 t1 t2 : List UInt8) (hn : wi.heap.size = n) (h0 : t0.length ≤ 10) (h1 : t1.length ≤ 200000) (h2 : t2.length ≤ 10) (hl : full.length ≤ 200000) :
    Calls Tryz.prog 66 #[.pointer (some ⟨b, 0, none⟩), .slice (some ⟨n, 0, none⟩) 3 3] (wi.alloc (.cells #[.string (BA t0), .string (BA t1), .string (BA t2)] 9)) fun e w' => e = .returned (.tuple #[]) ∧ Sd w b X m K (full ++ (t0 ++ t1 ++ t2)) w' := by
  subst hn
  refine h.go (fun Xi ⟨l, hp, hc⟩ _ => ?_)
  have hb : Below wi.heap.size wi (wi.alloc (.cells #[.string (BA t0), .string (BA t1), .string (BA t2)] 9)) := (Below.refl _ _).alloc (Nat.le_refl _) _
  refine (put_three t0 t1 t2 _ b wi.heap.size Xi l (hp.below hb) (Blk.new _ _ _) (fun e => by have := hp.hi _ e; omega) h0 h1 h2 (by have := hc.len; omega)).mono ?_
  rintro e w' ⟨rfl, h5⟩
  refine ⟨rfl, Wrote.of (h5.of_below hb) ?_⟩
  have := hc.app (t0 ++ t1 ++ t2)
  simpa [List.append_assoc] using this
theorem opT_none {op : Int} (h : ∀ o, o ∈ [(2 : Int), 3, 4, 5, 7, 6, 9, 8] → o ≠ op) : opT op = [] := by
  have h2 := h 2 (by simp)
  have h3 := h 3 (by simp)
  have h4 := h 4 (by simp)
  have h5 := h 5 (by simp)
  have h6 := h 6 (by simp)
  have h7 := h 7 (by simp)
  have h8 := h 8 (by simp)
  have h9 := h 9 (by simp)
  unfold opT
  rw [if_neg h2.symm, if_neg h3.symm, if_neg h4.symm, if_neg h5.symm, if_neg h6.symm, if_neg h7.symm, if_neg h8.symm, if_neg h9.symm]
theorem take_more {l : List Int} {k : Nat} {x op : Int} (h : ∀ o, o ∈ l.take k → o ≠ op) (hx : l[k]? = some x) (hne : x ≠ op) : ∀ o, o ∈ l.take (k + 1) → o ≠ op := by
  intro o ho
  obtain ⟨h1, h2⟩ := List.getElem?_eq_some_iff.1 hx
  rw [List.take_succ_eq_append_getElem h1, h2] at ho
  simp at ho
  rcases ho with ho | ho
  · exact h o ho
  · rw [ho]; exact hne
set_option maxRecDepth 20000 in
set_option maxHeartbeats 8000000 in
theorem sign_any (op : Int) (w : World) (he : WEnv w) : Calls Tryz.prog 96 #[.int .i64 op] w fun e w' => e = .returned (.string (BA (opT op))) ∧ Below w.heap.size w w' := by
  have a0 := he.sg 0 (by decide)
  have a1 := he.sg 1 (by decide)
  have a2 := he.sg 2 (by decide)
  have a3 := he.sg 3 (by decide)
  have a4 := he.sg 4 (by decide)
  have a5 := he.sg 5 (by decide)
  have a6 := he.sg 6 (by decide)
  have a7 := he.sg 7 (by decide)
  have a8 := he.sg 8 (by decide)
  have a9 := he.sg 9 (by decide)
  have a10 := he.sg 10 (by decide)
  have a11 := he.sg 11 (by decide)
  have a12 := he.sg 12 (by decide)
  have a13 := he.sg 13 (by decide)
  have a14 := he.sg 14 (by decide)
  have a15 := he.sg 15 (by decide)
  simp only [List.getElem?_cons_zero, List.getElem?_cons_succ] at a0 a1 a2 a3 a4 a5 a6 a7 a8 a9 a10 a11 a12 a13 a14 a15
  clear he
  go_enter Tryz.func96, Tryz.ntmps96
  go_wp2_with fail
  go_loopw [6] (fun x wr => ∃ k : Nat, x = .int .i64 (k : Int) ∧ k ≤ 8 ∧ Hid (∀ o, o ∈ [(2 : Int), 3, 4, 5, 7, 6, 9, 8].take k → o ≠ op) ∧ Hid (Below w.heap.size w wr)) (fun x _ => 8 - (intOf x).toNat)
  case atStart => exact ⟨0, rfl, by decide, hide (by simp), hide (Below.refl _ _)⟩
  case round =>
    clear a0 a1 a2 a3 a4 a5 a6 a7 a8 a9 a10 a11 a12 a13 a14 a15
    obtain ⟨k, rfl, hk1, HN, HB⟩ := hrel
    have hcs : k = 0 ∨ k = 1 ∨ k = 2 ∨ k = 3 ∨ k = 4 ∨ k = 5 ∨ k = 6 ∨ k = 7 ∨ k = 8 := by omega
    clear hk1
    rcases hcs with rfl | rfl | rfl | rfl | rfl | rfl | rfl | rfl | rfl
    · have hidx := sidx0 wr
      by_cases ho : op = 2
      · subst ho
        clear HN
        go_wp2
        go_ret
        exact ⟨rfl, (unhide HB).alloc (unhide HB).size _⟩
      · have hne : ((2 : Int) == op) = false := by rw [beq_eq_false_iff_ne]; exact fun e => ho e.symm
        have HN2 := hide (take_more (unhide HN) (x := 2) rfl (fun e => ho e.symm))
        clear HN ho
        go_wp2
        go_roundw
        case rel => exact ⟨1, rfl, by decide, HN2, hide ((unhide HB).alloc (unhide HB).size _)⟩
        case measure => simp [intOf]
    · have hidx := sidx1 wr
      by_cases ho : op = 3
      · subst ho
        clear HN
        go_wp2
        go_ret
        exact ⟨rfl, (unhide HB).alloc (unhide HB).size _⟩
      · have hne : ((3 : Int) == op) = false := by rw [beq_eq_false_iff_ne]; exact fun e => ho e.symm
        have HN2 := hide (take_more (unhide HN) (x := 3) rfl (fun e => ho e.symm))
        clear HN ho
        go_wp2
        go_roundw
        case rel => exact ⟨2, rfl, by decide, HN2, hide ((unhide HB).alloc (unhide HB).size _)⟩
        case measure => simp [intOf]
    · have hidx := sidx2 wr
      by_cases ho : op = 4
      · subst ho
        clear HN
        go_wp2
        go_ret
        exact ⟨rfl, (unhide HB).alloc (unhide HB).size _⟩
      · have hne : ((4 : Int) == op) = false := by rw [beq_eq_false_iff_ne]; exact fun e => ho e.symm
        have HN2 := hide (take_more (unhide HN) (x := 4) rfl (fun e => ho e.symm))
        clear HN ho
        go_wp2
        go_roundw
        case rel => exact ⟨3, rfl, by decide, HN2, hide ((unhide HB).alloc (unhide HB).size _)⟩
        case measure => simp [intOf]
    · have hidx := sidx3 wr
      by_cases ho : op = 5
      · subst ho
        clear HN
        go_wp2
        go_ret
        exact ⟨rfl, (unhide HB).alloc (unhide HB).size _⟩
      · have hne : ((5 : Int) == op) = false := by rw [beq_eq_false_iff_ne]; exact fun e => ho e.symm
        have HN2 := hide (take_more (unhide HN) (x := 5) rfl (fun e => ho e.symm))
        clear HN ho
        go_wp2
        go_roundw
        case rel => exact ⟨4, rfl, by decide, HN2, hide ((unhide HB).alloc (unhide HB).size _)⟩
        case measure => simp [intOf]
    · have hidx := sidx4 wr
      by_cases ho : op = 7
      · subst ho
        clear HN
        go_wp2
        go_ret
        exact ⟨rfl, (unhide HB).alloc (unhide HB).size _⟩
      · have hne : ((7 : Int) == op) = false := by rw [beq_eq_false_iff_ne]; exact fun e => ho e.symm
        have HN2 := hide (take_more (unhide HN) (x := 7) rfl (fun e => ho e.symm))
        clear HN ho
        go_wp2
        go_roundw
        case rel => exact ⟨5, rfl, by decide, HN2, hide ((unhide HB).alloc (unhide HB).size _)⟩
        case measure => simp [intOf]
    · have hidx := sidx5 wr
      by_cases ho : op = 6
      · subst ho
        clear HN
        go_wp2
        go_ret
        exact ⟨rfl, (unhide HB).alloc (unhide HB).size _⟩
      · have hne : ((6 : Int) == op) = false := by rw [beq_eq_false_iff_ne]; exact fun e => ho e.symm
        have HN2 := hide (take_more (unhide HN) (x := 6) rfl (fun e => ho e.symm))
        clear HN ho
        go_wp2
        go_roundw
        case rel => exact ⟨6, rfl, by decide, HN2, hide ((unhide HB).alloc (unhide HB).size _)⟩
        case measure => simp [intOf]
    · have hidx := sidx6 wr
      by_cases ho : op = 9
      · subst ho
        clear HN
        go_wp2
        go_ret
        exact ⟨rfl, (unhide HB).alloc (unhide HB).size _⟩
      · have hne : ((9 : Int) == op) = false := by rw [beq_eq_false_iff_ne]; exact fun e => ho e.symm
        have HN2 := hide (take_more (unhide HN) (x := 9) rfl (fun e => ho e.symm))
        clear HN ho
        go_wp2
        go_roundw
        case rel => exact ⟨7, rfl, by decide, HN2, hide ((unhide HB).alloc (unhide HB).size _)⟩
        case measure => simp [intOf]
    · have hidx := sidx7 wr
      by_cases ho : op = 8
      · subst ho
        clear HN
        go_wp2
        go_ret
        exact ⟨rfl, (unhide HB).alloc (unhide HB).size _⟩
      · have hne : ((8 : Int) == op) = false := by rw [beq_eq_false_iff_ne]; exact fun e => ho e.symm
        have HN2 := hide (take_more (unhide HN) (x := 8) rfl (fun e => ho e.symm))
        clear HN ho
        go_wp2
        go_roundw
        case rel => exact ⟨8, rfl, by decide, HN2, hide ((unhide HB).alloc (unhide HB).size _)⟩
        case measure => simp [intOf]
    · go_wp2
      go_ret
      exact ⟨ret_str (by rw [opT_none (unhide HN)]; rfl), unhide HB⟩
end Go.Proofs.YtnamfjbfcbamjaaGreatDoor
namespace Go.Proofs.YtnamfjbfcbamjaaGreatDoor
open Go.RowKit
theorem pen_set {w1 : World} {b : Nat} {x0 x1 x2 : Value} (h : Blk w1 b 45 #[x0, x1, x2]) (a0 a1 a2 : Value) : Blk (((w1.setCell ⟨b, 0, none⟩ a0).setCell ⟨b, 1, none⟩ a1).setCell ⟨b, 2, none⟩ a2) b 45 #[a0, a1, a2] := by
  have := ((h.set 0 a0).set 1 a1).set 2 a2
  simpa using this
theorem pen_below {w w1 : World} {n b : Nat} (h : Below n w w1) (hb : n ≤ b) (a0 a1 a2 : Value) : Below n w (((w1.setCell ⟨b, 0, none⟩ a0).setCell ⟨b, 1, none⟩ a1).setCell ⟨b, 2, none⟩ a2) :=
  ((h.setCell (p := ⟨b, 0, none⟩) hb _).setCell (p := ⟨b, 1, none⟩) hb _).setCell (p := ⟨b, 2, none⟩) hb _
theorem pen_at {w w1 : World} {cs : Array Value} (b1 : Below ((w.alloc (.cells cs 37)).alloc (.cells #[.nilFunc, .string ⟨#[]⟩, .nilFunc] 45)).heap.size ((w.alloc (.cells cs 37)).alloc (.cells #[.nilFunc, .string ⟨#[]⟩, .nilFunc] 45)) w1) :
    Blk w1 (w.heap.size + 1) 45 #[.nilFunc, .string ⟨#[]⟩, .nilFunc] ∧ Below w.heap.size w w1 := by
  have h := Blk.new (w.alloc (.cells cs 37)) 45 #[.nilFunc, .string ⟨#[]⟩, .nilFunc]
  rw [show (w.alloc (.cells cs 37)).heap.size = w.heap.size + 1 by simp] at h
  have h2 : Below w.heap.size w ((w.alloc (.cells cs 37)).alloc (.cells #[.nilFunc, .string ⟨#[]⟩, .nilFunc] 45)) := ((Below.refl _ w).alloc (Nat.le_refl _) _).alloc (by simp) _
  exact ⟨h.below b1 h.lt, h2.trans (b1.mono h2.size)⟩
set_option maxRecDepth 20000 in
set_option maxHeartbeats 2000000 in
theorem qwithin_any (kd : Int) (t : ByteArray) (q : Bool) (op : Int) (c : Bool) (v : Value) (w : World) : Calls Tryz.prog 38 #[.agg #[.int .i64 kd, .string t, .bool q, .int .i64 op, .bool c, v]] w fun e w' => e = .returned (.agg (penC (if 6 ≤ op then 1 else 2))) ∧ Below w.heap.size w w' := by
  by_cases h6 : 6 ≤ op
  · rw [if_pos h6]
    go_enter Tryz.func38, Tryz.ntmps38
    go_wp2_with fail
    refine (show Calls Tryz.prog 58 #[] _ (fun e w' => e = .returned (.agg #[.func (Fn.func 72) #[] #[], .string ⟨#[34]⟩, .func (Fn.func 38) #[] #[]]) ∧ Below _ _ w') from pen1_any _).mono ?_
    rintro e w1 ⟨rfl, b1⟩
    obtain ⟨hB, hb⟩ := pen_at b1
    have c0 : w1.cell? ⟨w.heap.size + 1, 0, none⟩ = some .nilFunc := hB.cell 0 rfl
    have c1 : w1.cell? ⟨w.heap.size + 1, 1, none⟩ = some (.string ⟨#[]⟩) := hB.cell 1 rfl
    have c2 : w1.cell? ⟨w.heap.size + 1, 2, none⟩ = some .nilFunc := hB.cell 2 rfl
    have z0 := hB.frozen 0
    have z1 := hB.frozen 1
    have z2 := hB.frozen 2
    have HR := hide (pen_set hB)
    have HB := hide (pen_below hb (Nat.le_succ _))
    clear b1 hB hb
    go_wp2
    exact bodyPost_ret (v := .agg (penC 1)) (results_pen rfl _ _ (w.heap.size + 1) _ _ _ rfl (unhide HR _ _ _)) rfl ⟨rfl, unhide HB _ _ _⟩
  · rw [if_neg h6]
    go_enter Tryz.func38, Tryz.ntmps38
    go_wp2_with fail
    refine (show Calls Tryz.prog 59 #[] _ (fun e w' => e = .returned (.agg #[.func (Fn.func 73) #[] #[], .string ⟨#[]⟩, .func (Fn.func 38) #[] #[]]) ∧ Below _ _ w') from pen2_any _).mono ?_
    rintro e w1 ⟨rfl, b1⟩
    obtain ⟨hB, hb⟩ := pen_at b1
    have c0 : w1.cell? ⟨w.heap.size + 1, 0, none⟩ = some .nilFunc := hB.cell 0 rfl
    have c1 : w1.cell? ⟨w.heap.size + 1, 1, none⟩ = some (.string ⟨#[]⟩) := hB.cell 1 rfl
    have c2 : w1.cell? ⟨w.heap.size + 1, 2, none⟩ = some .nilFunc := hB.cell 2 rfl
    have z0 := hB.frozen 0
    have z1 := hB.frozen 1
    have z2 := hB.frozen 2
    have HR := hide (pen_set hB)
    have HB := hide (pen_below hb (Nat.le_succ _))
    clear b1 hB hb
    go_wp2
    exact bodyPost_ret (v := .agg (penC 2)) (results_pen rfl _ _ (w.heap.size + 1) _ _ _ rfl (unhide HR _ _ _)) rfl ⟨rfl, unhide HB _ _ _⟩
set_option maxRecDepth 20000 in
set_option maxHeartbeats 2000000 in
theorem pwithin_any (kd : Int) (t : ByteArray) (q : Bool) (op : Int) (c : Bool) (v : Value) (w : World) : Calls Tryz.prog 35 #[.agg #[.int .i64 kd, .string t, .bool q, .int .i64 op, .bool c, v]] w fun e w' => e = .returned (.agg (penC (nxtT 0 q op))) ∧ Below w.heap.size w w' := by
  cases q
  · have hn : nxtT 0 false op = 0 := by simp [nxtT]
    rw [hn]
    go_enter Tryz.func35, Tryz.ntmps35
    go_wp2_with fail
    refine (plainPen_any _).mono ?_
    rintro e w1 ⟨rfl, b1⟩
    obtain ⟨hB, hb⟩ := pen_at b1
    have c0 : w1.cell? ⟨w.heap.size + 1, 0, none⟩ = some .nilFunc := hB.cell 0 rfl
    have c1 : w1.cell? ⟨w.heap.size + 1, 1, none⟩ = some (.string ⟨#[]⟩) := hB.cell 1 rfl
    have c2 : w1.cell? ⟨w.heap.size + 1, 2, none⟩ = some .nilFunc := hB.cell 2 rfl
    have z0 := hB.frozen 0
    have z1 := hB.frozen 1
    have z2 := hB.frozen 2
    have HR := hide (pen_set hB)
    have HB := hide (pen_below hb (Nat.le_succ _))
    clear b1 hB hb
    go_wp2
    exact bodyPost_ret (v := .agg (penC 0)) (results_pen rfl _ _ (w.heap.size + 1) _ _ _ rfl (unhide HR _ _ _)) rfl ⟨rfl, unhide HB _ _ _⟩
  · have hn : nxtT 0 true op = if 6 ≤ op then 1 else 2 := by simp [nxtT]
    rw [hn]
    have HQ := hide (fun W => qwithin_any kd t true op c v W)
    by_cases h6 : 6 ≤ op
    · rw [show (if 6 ≤ op then 1 else 2) = 1 by simp [h6]] at HQ ⊢
      clear hn h6
      go_enter Tryz.func35, Tryz.ntmps35
      go_wp2_with fail
      refine (show Calls Tryz.prog 38 _ _ (fun e w' => e = .returned (.agg #[.func (Fn.func 72) #[] #[], .string ⟨#[34]⟩, .func (Fn.func 38) #[] #[]]) ∧ Below _ _ w') from unhide HQ _).mono ?_
      rintro e w1 ⟨rfl, b1⟩
      obtain ⟨hB, hb⟩ := pen_at b1
      have c0 : w1.cell? ⟨w.heap.size + 1, 0, none⟩ = some .nilFunc := hB.cell 0 rfl
      have c1 : w1.cell? ⟨w.heap.size + 1, 1, none⟩ = some (.string ⟨#[]⟩) := hB.cell 1 rfl
      have c2 : w1.cell? ⟨w.heap.size + 1, 2, none⟩ = some .nilFunc := hB.cell 2 rfl
      have z0 := hB.frozen 0
      have z1 := hB.frozen 1
      have z2 := hB.frozen 2
      have HR := hide (pen_set hB)
      have HB := hide (pen_below hb (Nat.le_succ _))
      clear b1 hB hb
      go_wp2
      exact bodyPost_ret (v := .agg (penC 1)) (results_pen rfl _ _ (w.heap.size + 1) _ _ _ rfl (unhide HR _ _ _)) rfl ⟨rfl, unhide HB _ _ _⟩
    · rw [show (if 6 ≤ op then 1 else 2) = 2 by simp [h6]] at HQ ⊢
      clear hn h6
      go_enter Tryz.func35, Tryz.ntmps35
      go_wp2_with fail
      refine (show Calls Tryz.prog 38 _ _ (fun e w' => e = .returned (.agg #[.func (Fn.func 73) #[] #[], .string ⟨#[]⟩, .func (Fn.func 38) #[] #[]]) ∧ Below _ _ w') from unhide HQ _).mono ?_
      rintro e w1 ⟨rfl, b1⟩
      obtain ⟨hB, hb⟩ := pen_at b1
      have c0 : w1.cell? ⟨w.heap.size + 1, 0, none⟩ = some .nilFunc := hB.cell 0 rfl
      have c1 : w1.cell? ⟨w.heap.size + 1, 1, none⟩ = some (.string ⟨#[]⟩) := hB.cell 1 rfl
      have c2 : w1.cell? ⟨w.heap.size + 1, 2, none⟩ = some .nilFunc := hB.cell 2 rfl
      have z0 := hB.frozen 0
      have z1 := hB.frozen 1
      have z2 := hB.frozen 2
      have HR := hide (pen_set hB)
      have HB := hide (pen_below hb (Nat.le_succ _))
      clear b1 hB hb
      go_wp2
      exact bodyPost_ret (v := .agg (penC 2)) (results_pen rfl _ _ (w.heap.size + 1) _ _ _ rfl (unhide HR _ _ _)) rfl ⟨rfl, unhide HB _ _ _⟩
theorem penI_any (k : Nat) (kd : Int) (t : ByteArray) (q : Bool) (op : Int) (c : Bool) (v : Value) (w : World) : Calls Tryz.prog (penI k) #[.agg #[.int .i64 kd, .string t, .bool q, .int .i64 op, .bool c, v]] w fun e w' => e = .returned (.agg (penC (nxtT k q op))) ∧ Below w.heap.size w w' := by
  by_cases h : k = 0
  · subst h
    exact pwithin_any kd t q op c v w
  · have h1 : penI k = 38 := by unfold penI; rw [if_neg h]
    have h2 : nxtT k q op = if 6 ≤ op then 1 else 2 := by unfold nxtT; rw [if_neg (fun e => h e.1)]
    rw [h1, h2]
    exact qwithin_any kd t q op c v w
end Go.Proofs.YtnamfjbfcbamjaaGreatDoor
namespace Go.Proofs.YtnamfjbfcbamjaaGreatDoor
open Go.RowKit
def K2 (n : Nat) (cs ds : Array Value) : Nat → TypeId → Array Value → Prop := fun q t x => (q = n ∧ t = 37 ∧ x = cs) ∨ (q = n + 1 ∧ t = 45 ∧ x = ds)
theorem Sd.two {w : World} {b : Nat} {X : Nat → Prop} {full : List UInt8} (h : PgC w b X full) (hb3 : 3 ≤ b) (cs ds : Array Value) : Sd w b X 2 (K2 w.heap.size cs ds) full ((w.alloc (.cells cs 37)).alloc (.cells ds 45)) := by
  refine Sd.start h hb3 (((Below.refl _ w).alloc (Nat.le_refl _) _).alloc (by simp) _) (by simp) ?_
  rintro q t x (⟨rfl, rfl, rfl⟩ | ⟨rfl, rfl, rfl⟩)
  · exact ⟨(Blk.new w _ _).alloc _, by omega, by omega⟩
  · refine ⟨?_, by omega, by omega⟩
    have := Blk.new (w.alloc (.cells cs 37)) 45 x
    rwa [show (w.alloc (.cells cs 37)).heap.size = w.heap.size + 1 by simp] at this
theorem Sd.part {w wi : World} {b n : Nat} {X : Nat → Prop} {cs ds : Array Value} {full : List UInt8} (h : Sd w b X 2 (K2 n cs ds) full wi) : Blk wi n 37 cs := h.blk (.inl ⟨rfl, rfl, rfl⟩)
theorem Sd.pen {w wi : World} {b n : Nat} {X : Nat → Prop} {cs ds : Array Value} {full : List UInt8} (h : Sd w b X 2 (K2 n cs ds) full wi) : Blk wi (n + 1) 45 ds := h.blk (.inr ⟨rfl, rfl, rfl⟩)
def WdN (N : Nat) : Prop := ∀ (ps : List Prt) (v : Value) (A : Nat → Prop) (w : World) (b : Nat) (X : Nat → Prop) (full : List UInt8) (k : Nat), k < 4 → SizeOf.sizeOf ps ≤ N → WEnv w → 3 ≤ b → PgC w b X full → WAt w A v ps → (∀ j, A j → j < w.heap.size ∧ ¬ X j) → (full ++ wrdT k ps).length ≤ 10000 →
    Calls Tryz.prog 32 #[.pointer (some ⟨b, 0, none⟩), v, .agg (penC k)] w fun e w' => e = .returned (.tuple #[]) ∧ Wrote w b X (full ++ wrdT k ps) w'
theorem Sd.word {N : Nat} (HW : WdN N) {w wi : World} {b m : Nat} {X : Nat → Prop} {K : Nat → TypeId → Array Value → Prop} {full : List UInt8} (h : Sd w b X m K full wi) (hb3 : 3 ≤ b) (he : WEnv w) {A : Nat → Prop} {v : Value} {s : List Prt} (hv : WAt w A v s) (hA : ∀ j, A j → j < w.heap.size ∧ ¬ X j) (k : Nat) (hk : k < 4) (hN : SizeOf.sizeOf s ≤ N) (hl : (full ++ wrdT k s).length ≤ 10000) :
    Calls Tryz.prog 32 #[.pointer (some ⟨b, 0, none⟩), v, .agg (penC k)] wi fun e w' => e = .returned (.tuple #[]) ∧ Sd w b X m K (full ++ wrdT k s) w' :=
  h.go (fun Xi hp hx => HW s v A wi b Xi full k hk hN (h.env he) hb3 hp (h.wat hv hA) (fun j hj => ⟨Nat.lt_of_lt_of_le (hA j hj).1 (by have := h.size; omega), fun e => by
    rcases hx j e with e | e
    · exact (hA j hj).2 e
    · have := (hA j hj).1; omega⟩) hl)
end Go.Proofs.YtnamfjbfcbamjaaGreatDoor

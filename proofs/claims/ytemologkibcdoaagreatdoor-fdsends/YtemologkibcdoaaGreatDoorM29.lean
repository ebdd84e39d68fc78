/-
  Files (stage 14) in memory: open files beside a tree.
  Files (stage 14): Read, Write, At, Node, Close of a file.
-/
import Derived.Test.YtemologkibcdoaaGreatDoorM28
import Derived.Laws.Entries

/- Files (stage 14) in memory: open files beside a tree. -/
namespace Go.Proofs.YtemologkibcdoaaGreatDoor
open Go.RowKit Go.Maps

/-- An open file (or one that was closed): its node, its place, its flags. -/
structure Fl where
  cl : Bool
  node : Int
  at' : Int
  fl : Int
def flV (f : Nat) (x : Fl) : Array Value := #[.pointer (if x.cl then none else some ⟨f, 0, none⟩), .int .i64 x.node, .int .i64 x.at', .int .i64 x.fl]
structure FlOk (x : Fl) : Prop where
  node : 0 ≤ x.node ∧ x.node ≤ 1024
  at' : 0 ≤ x.at' ∧ x.at' ≤ 100000
/-- A tree, and files beside it. -/
structure GX (w : World) (f q : Nat) (Y : Nat → Prop) (s : NS) (nb n : Nat) (B : Bas) (l : List (Nat × Fl)) : Prop where
  fx : FX w f q Y s nb n B
  blk : ∀ (j b : Nat) (x : Fl), l[j]? = some (b, x) → Blk w b 145 (flV f x)
  out : ∀ (j b : Nat) (x : Fl), l[j]? = some (b, x) → ¬ Y b ∧ B.tn b ∧ b ≠ f
  inj : ∀ (i j b : Nat) (x y : Fl), l[i]? = some (b, x) → l[j]? = some (b, y) → i = j
  ok : ∀ (j b : Nat) (x : Fl), l[j]? = some (b, x) → FlOk x

theorem FX.rebased {w : World} {f q nb n : Nat} {B : Bas} {Y : Nat → Prop} {s : NS} (H : FX w f q Y s nb n B) : FX w f q Y s nb n ⟨B.w, w, Y⟩ := ⟨⟨H.nd.at', H.nd.ok, H.nd.env.rebase H.new, fun k hk => ⟨(H.nd.yb k hk).1, hk⟩⟩, H.blk, H.no, H.new⟩
theorem FX.back {w w' : World} {f q nb n n' : Nat} {B : Bas} {Y : Nat → Prop} {s s' : NS} (H : FX w f q Y s nb n B) (H' : FX w' f q Y s' nb n' ⟨B.w, w, Y⟩) : FX w' f q Y s' nb n' B ∧ GrownS w w' Y := ⟨⟨⟨H'.nd.at', H'.nd.ok, H.nd.env.grownS H'.nd.env.kept H.nd.yb, H.nd.yb⟩, H'.blk, H'.no, H'.new⟩, H'.nd.env.kept⟩
theorem GX.nil {w : World} {f q nb n : Nat} {B : Bas} {Y : Nat → Prop} {s : NS} (H : FX w f q Y s nb n B) : GX w f q Y s nb n B [] := ⟨H, fun j b x h => by simp at h, fun j b x h => by simp at h, fun i j b x y h => by simp at h, fun j b x h => by simp at h⟩
theorem GX.turned {w w' : World} {f q nb n n' : Nat} {B : Bas} {Y : Nat → Prop} {s s' : NS} {l : List (Nat × Fl)} (H : GX w f q Y s nb n B l) (H' : FX w' f q Y s' nb n' B) (hg : GrownS w w' Y) : GX w' f q Y s' nb n' B l := ⟨H', fun j b x h => (H.blk j b x h).grownS hg (H.out j b x h).1, H.out, H.inj, H.ok⟩
/-- The tree has turned by a call of its own. -/
theorem GX.tree {w w' : World} {f q nb n n' : Nat} {B : Bas} {Y : Nat → Prop} {s s' : NS} {l : List (Nat × Fl)} (H : GX w f q Y s nb n B l) (H' : FX w' f q Y s' nb n' ⟨B.w, w, Y⟩) : GX w' f q Y s' nb n' B l := H.turned (H.fx.back H').1 (H.fx.back H').2
theorem GX.below {w w' : World} {f q nb n : Nat} {B : Bas} {Y : Nat → Prop} {s : NS} {l : List (Nat × Fl)} (H : GX w f q Y s nb n B l) (hb : Below w.heap.size w w') : GX w' f q Y s nb n B l := ⟨H.fx.below hb, fun j b x h => (H.blk j b x h).below hb (H.blk j b x h).lt, H.out, H.inj, H.ok⟩
theorem GX.mono {w : World} {f q nb n n' : Nat} {B : Bas} {Y : Nat → Prop} {s : NS} {l : List (Nat × Fl)} (H : GX w f q Y s nb n B l) (h : n ≤ n') : GX w f q Y s nb n' B l := ⟨H.fx.mono h, H.blk, H.out, H.inj, H.ok⟩
/-- A file's cell is set. -/
theorem GX.put {w : World} {f q nb n : Nat} {B : Bas} {Y : Nat → Prop} {s : NS} {l : List (Nat × Fl)} (H : GX w f q Y s nb n B l) {j b : Nat} {x : Fl} (hj : l[j]? = some (b, x)) (i : Nat) (v : Value) {x' : Fl} (hx : flV f x' = (flV f x).setIfInBounds i v) (ho : FlOk x') : GX (w.setCell ⟨b, i, none⟩ v) f q Y s nb n B (l.set j (b, x')) := by
  obtain ⟨o1, o2, o3⟩ := H.out j b x hj
  have hg : GrownS w (w.setCell ⟨b, i, none⟩ v) (fun k => k = b) := GrownS.of (grown_setCell w ⟨b, i, none⟩ v) (fun k e => by injection e)
  have hs : (w.setCell ⟨b, i, none⟩ v).heap.size = w.heap.size := by simp
  have hjl : j < l.length := by
    rcases Nat.lt_or_ge j l.length with h | h
    · exact h
    · rw [List.getElem?_eq_none h] at hj; cases hj
  have hset : ∀ (k c : Nat) (y : Fl), (l.set j (b, x'))[k]? = some (c, y) → (k = j ∧ c = b ∧ y = x') ∨ (k ≠ j ∧ l[k]? = some (c, y)) := fun k c y h => by
    by_cases e : j = k
    · subst e
      rw [List.getElem?_set_self hjl] at h
      injection h with h
      injection h with h1 h2
      exact .inl ⟨rfl, h1.symm, h2.symm⟩
    · rw [List.getElem?_set_ne e] at h
      exact .inr ⟨fun e2 => e e2.symm, h⟩
  refine ⟨⟨H.fx.nd.grownS hg (fun k _ hk e => o1 (e ▸ hk)) (fun k e => e ▸ o2), H.fx.blk.grownS hg (fun e => o3 e.symm), H.fx.no, fun k hk => H.fx.new k (by rw [← hs]; exact hk)⟩, fun k c y h => ?_, fun k c y h => ?_, fun k m c y z h1 h2 => ?_, fun k c y h => ?_⟩
  · rcases hset k c y h with ⟨_, rfl, rfl⟩ | ⟨hk, h5⟩
    · rw [hx]
      exact (H.blk j _ x hj).set i v
    · exact (H.blk k c y h5).grownS hg (fun e => hk (H.inj k j b y x (e ▸ h5) hj))
  · rcases hset k c y h with ⟨_, rfl, rfl⟩ | ⟨_, h⟩
    · exact H.out j _ x hj
    · exact H.out k c y h
  · rcases hset k c y h1 with ⟨e1, e2, _⟩ | ⟨hk, h5⟩ <;> rcases hset m c z h2 with ⟨e3, e4, _⟩ | ⟨hm, h6⟩
    · rw [e1, e3]
    · rw [e1]; exact H.inj j m b x z hj (e2 ▸ h6)
    · rw [e3]; exact H.inj k j b y x (e4 ▸ h5) hj
    · exact H.inj _ _ _ y z h5 h6
  · rcases hset k c y h with ⟨_, rfl, rfl⟩ | ⟨_, h⟩
    · exact ho
    · exact H.ok k c y h
/-- A file more. -/
theorem GX.more {w : World} {f q nb n : Nat} {B : Bas} {Y : Nat → Prop} {s : NS} {l : List (Nat × Fl)} (H : GX w f q Y s nb n B l) {x : Fl} (ho : FlOk x) : GX (w.alloc (.cells (flV f x) 145)) f q (fun k => Upto w Y k ∨ (w.alloc (.cells (flV f x) 145)).heap.size ≤ k) s nb n B (l ++ [(w.heap.size, x)]) := by
  have hb : Below w.heap.size w (w.alloc (.cells (flV f x) 145)) := (Below.refl _ w).alloc (Nat.le_refl _) _
  have hs : (w.alloc (.cells (flV f x) 145)).heap.size = w.heap.size + 1 := by simp
  have hnew := Blk.new w 145 (flV f x)
  have hat : ∀ (k c : Nat) (y : Fl), (l ++ [(w.heap.size, x)])[k]? = some (c, y) → (k = l.length ∧ c = w.heap.size ∧ y = x) ∨ (k < l.length ∧ l[k]? = some (c, y)) := fun k c y h => by
    rcases Nat.lt_or_ge k l.length with hk | hk
    · rw [List.getElem?_append_left hk] at h
      exact .inr ⟨hk, h⟩
    · rw [List.getElem?_append_right hk] at h
      by_cases e : k - l.length = 0
      · rw [e] at h
        simp at h
        exact .inl ⟨by omega, h.1.symm, h.2.symm⟩
      · rw [List.getElem?_eq_none (by simp; omega)] at h; cases h
  refine ⟨H.fx.renew hb, fun k c y h => ?_, fun k c y h => ?_, fun k m c y z h1 h2 => ?_, fun k c y h => ?_⟩
  · rcases hat k c y h with ⟨_, rfl, rfl⟩ | ⟨_, h⟩
    · exact hnew
    · exact (H.blk k c y h).below hb (H.blk k c y h).lt
  · rcases hat k c y h with ⟨_, rfl, rfl⟩ | ⟨_, h⟩
    · refine ⟨?_, H.fx.nd.env.le _ (Nat.le_refl _), fun e => ?_⟩
      · rintro (h | h)
        · have := h.2
          omega
        · omega
      · have := H.fx.blk.lt
        omega
    · have hlt := (H.blk k c y h).lt
      refine ⟨?_, (H.out k c y h).2⟩
      rintro (h2 | h2)
      · exact (H.out k c y h).1 h2.1
      · omega
  · rcases hat k c y h1 with ⟨e1, e2, _⟩ | ⟨hk, h5⟩ <;> rcases hat m c z h2 with ⟨e3, e4, _⟩ | ⟨hm, h6⟩
    · rw [e1, e3]
    · have := (H.blk _ _ _ h6).lt
      omega
    · have := (H.blk _ _ _ h5).lt
      omega
    · exact H.inj _ _ _ y z h5 h6
  · rcases hat k c y h with ⟨_, rfl, rfl⟩ | ⟨_, h⟩
    · exact ho
    · exact H.ok k c y h
def hasF (fl k : Int) : Bool := (bits .and .i64 fl k == k)
set_option maxRecDepth 20000 in
theorem has_any (fl k : Int) (w : World) : Calls Tryz.prog 63 #[.int .i64 fl, .int .i64 k] w fun e w' => e = .returned (.bool (hasF fl k)) ∧ w' = w := by
  unfold hasF
  go_enter Tryz.func63, Tryz.ntmps63
  go_wp2_with fail
  go_ret
  exact ⟨rfl, rfl⟩
/-- Why a file is refused. -/
def refuF (x : Fl) (k : Int) : Int := if x.cl then 28 else if hasF x.fl k then 0 else 33
set_option maxRecDepth 20000 in
set_option maxHeartbeats 1000000 in
theorem frefuse_nil (k : Int) (w : World) : Calls Tryz.prog 228 #[.pointer none, .int .i64 k] w fun e w' => e = .returned (.int .i64 2) ∧ w' = w := by
  go_enter Tryz.func228, Tryz.ntmps228
  go_wp2_with fail
  go_ret
  exact ⟨rfl, rfl⟩
set_option maxRecDepth 20000 in
set_option maxHeartbeats 1000000 in
theorem frefuse_any {w : World} {f b : Nat} {x : Fl} (H : Blk w b 145 (flV f x)) (k : Int) : Calls Tryz.prog 228 #[.pointer (some ⟨b, 0, none⟩), .int .i64 k] w fun e w' => e = .returned (.int .i64 (refuF x k)) ∧ w' = w := by
  have c0 : w.cell? ⟨b, 0, none⟩ = some (.pointer (if x.cl then none else some ⟨f, 0, none⟩)) := H.cell 0 rfl
  have c3 : w.cell? ⟨b, 3, none⟩ = some (.int .i64 x.fl) := H.cell 3 rfl
  have HH := hide (has_any x.fl k w)
  obtain ⟨cl, nd, at', fl⟩ := x
  simp only at c0 c3 HH
  unfold refuF
  simp only
  obtain ⟨hf, hhf⟩ : ∃ hf, hf = hasF fl k := ⟨_, rfl⟩
  rw [← hhf] at HH ⊢
  clear H hhf
  cases cl with
  | true =>
    simp only [if_true] at c0 ⊢
    go_enter Tryz.func228, Tryz.ntmps228
    go_wp2_with fail
    go_ret
    exact ⟨rfl, rfl⟩
  | false =>
    simp only [Bool.false_eq_true, if_false] at c0 ⊢
    cases hf with
    | true =>
      go_enter Tryz.func228, Tryz.ntmps228
      go_wp2_with fail
      refine (unhide HH).mono ?_
      rintro e w1 ⟨rfl, hw1⟩
      subst hw1
      go_wp2_with fail
      go_ret
      exact ⟨rfl, rfl⟩
    | false =>
      go_enter Tryz.func228, Tryz.ntmps228
      go_wp2_with fail
      refine (unhide HH).mono ?_
      rintro e w1 ⟨rfl, hw1⟩
      subst hw1
      go_wp2_with fail
      go_ret
      exact ⟨rfl, rfl⟩

end Go.Proofs.YtemologkibcdoaaGreatDoor

/- Files (stage 14): Read, Write, At, Node, Close of a file. -/
namespace Go.Proofs.YtemologkibcdoaaGreatDoor
open Go.RowKit Go.Maps

theorem set_at {α : Type} {l : List α} {j : Nat} {a : α} (h : l[j]? = some a) : l.set j a = l := by
  apply List.ext_getElem?
  intro k
  by_cases e : j = k
  · subst e
    have hl : j < l.length := by
      rcases Nat.lt_or_ge j l.length with h2 | h2
      · exact h2
      · rw [List.getElem?_eq_none h2] at h; cases h
    rw [List.getElem?_set_self hl, h]
  · rw [List.getElem?_set_ne e]
theorem refu_no {x : Fl} {k : Int} (h : refuF x k = 0) : x.cl = false ∧ hasF x.fl k = true := by
  unfold refuF at h
  cases hc : x.cl with
  | true => rw [hc] at h; cases h
  | false =>
    rw [hc] at h
    cases hf : hasF x.fl k with
    | true => exact ⟨rfl, rfl⟩
    | false => rw [hf] at h; cases h
def xrdE (s : NS) (x : Fl) (m : Int) : Int := if refuF x 1 ≠ 0 then refuF x 1 else nrdE s x.node x.at' m
def xrdT (s : NS) (x : Fl) (m : Int) : List UInt8 := if refuF x 1 ≠ 0 ∨ nrdE s x.node x.at' m ≠ 0 then [] else nrdT s x.node x.at' m
def xrdX (s : NS) (x : Fl) (m : Int) : Fl := { x with at' := x.at' + ((xrdT s x m).length : Int) }
theorem nrd_len {s : NS} {n : Nat} (K : NOk s n) (d a m : Int) : ((nrdT s d a m).length : Int) ≤ 4096 ∧ (0 ≤ a → a ≤ 100000 → a + ((nrdT s d a m).length : Int) ≤ 100000) := by
  unfold nrdT
  split
  · unfold rdT
    split
    · simp
    · rename_i x hx
      obtain ⟨k, _, hk, _⟩ := ndAt_some hx
      have hsz := (K.gd k x hk).1.size
      split
      · simp
      · rename_i h
        rw [List.length_take, List.length_drop, datOf_len]
        refine ⟨by omega, fun h1 h2 => by omega⟩
  · simp
set_option maxRecDepth 20000 in
set_option maxHeartbeats 1000000 in
theorem xread_any {w : World} {f q nb n : Nat} {B : Bas} {Y : Nat → Prop} {s : NS} {l : List (Nat × Fl)} (H : GX w f q Y s nb n B l) {j b : Nat} {x : Fl} (hj : l[j]? = some (b, x)) (m : Int) : Calls Tryz.prog 226 #[.pointer (some ⟨b, 0, none⟩), .int .i64 m] w fun e w' => e = .returned (.tuple #[.string (BA (xrdT s x m)), .int .i64 (xrdE s x m)]) ∧ Hid (GX w' f q Y s nb n B (l.set j (b, xrdX s x m))) := by
  have hblk := H.blk j b x hj
  have HR := hide (frefuse_any hblk 1)
  have hok := H.ok j b x hj
  unfold xrdX xrdT xrdE
  by_cases h0 : refuF x 1 = 0
  · obtain ⟨h1, h2⟩ := refu_no h0
    have HF : Hid (∀ W, GX W f q Y s nb n B l → Calls Tryz.prog 21 #[.pointer (some ⟨f, 0, none⟩), .int .i64 x.node, .int .i64 x.at', .int .i64 m] W fun e w' => e = .returned (.tuple #[.string (BA (nrdT s x.node x.at' m)), .int .i64 (nrdE s x.node x.at' m)]) ∧ (w'.cell? ⟨b, 0, none⟩ = some (.pointer (if x.cl then none else some ⟨f, 0, none⟩)) ∧ w'.cell? ⟨b, 1, none⟩ = some (.int .i64 x.node) ∧ w'.cell? ⟨b, 2, none⟩ = some (.int .i64 x.at')) ∧ Hid (GX w' f q Y s nb n B l)) := hide (fun W hW => (fread_any hW.fx x.node x.at' m (by have := hok.node; omega) (by have := hok.at'; omega)).mono (fun e w' h => by
      have h2 := hW.below h.2
      have h3 := h2.blk j b x hj
      exact ⟨h.1, ⟨h3.cell 0 rfl, h3.cell 1 rfl, h3.cell 2 rfl⟩, hide h2⟩))
    have HD : Hid (∀ W k, GX W f q Y s nb n B l → GX (W.drewN k) f q Y s nb n B l) := hide (fun W k h => h.below (below_drew _ _))
    have HLN := hide (nrd_len H.fx.nd.ok x.node x.at' m)
    rw [h0] at HR ⊢
    obtain ⟨RE, hRE⟩ : ∃ RE, RE = nrdE s x.node x.at' m := ⟨_, rfl⟩
    obtain ⟨RT, hRT⟩ : ∃ RT, RT = nrdT s x.node x.at' m := ⟨_, rfl⟩
    rw [← hRE, ← hRT] at HF
    rw [← hRT] at HLN
    rw [← hRE, ← hRT]
    have HH := hide H
    have HJ := hide hj
    have HOK := hide hok
    obtain ⟨cl, nd, at', fl⟩ := x
    simp only at h1 h2 HF HLN
    subst h1
    simp only [Bool.false_eq_true, if_false] at HF
    have c0 : w.cell? ⟨b, 0, none⟩ = some (.pointer (some ⟨f, 0, none⟩)) := hblk.cell 0 rfl
    have c1 : w.cell? ⟨b, 1, none⟩ = some (.int .i64 nd) := hblk.cell 1 rfl
    have c2 : w.cell? ⟨b, 2, none⟩ = some (.int .i64 at') := hblk.cell 2 rfl
    have ha1 := hok.at'.1
    have ha2 := hok.at'.2
    simp only at ha1 ha2
    clear H hj hblk hok hRE hRT h0 h2
    by_cases hE : RE = 0
    · subst hE
      rw [if_neg (by decide), if_neg (by decide)]
      simp only
      obtain ⟨len, hlen⟩ : ∃ len : Nat, len = RT.length := ⟨_, rfl⟩
      rw [← hlen] at HLN ⊢
      have HLEN := hide hlen
      have hl1 := (unhide HLN).1
      obtain ⟨A, hA⟩ : ∃ A, A = BA RT := ⟨_, rfl⟩
      have hAs : A.size = len := by rw [hA, hlen]; rfl
      rw [← hA] at HF ⊢
      clear hA hlen
      go_enter Tryz.func226, Tryz.ntmps226
      go_wp2_with fail
      refine (unhide HR).mono ?_
      rintro e w1 ⟨rfl, hw1⟩
      subst hw1
      go_wp2_with fail
      go_region_held3 (fun w' => w'.cell? ⟨b, 0, none⟩ = some (.pointer (some ⟨f, 0, none⟩)) ∧ w'.cell? ⟨b, 1, none⟩ = some (.int .i64 nd) ∧ w'.cell? ⟨b, 2, none⟩ = some (.int .i64 at')) (go_keep) ((go_at_call 21; refine (unhide HF _ (by first | exact unhide HH | exact unhide HD _ _ (unhide HH))).mono ?_; rintro e w2 ⟨rfl, ⟨a0, a1, a2⟩, HG⟩))
      have d3 : w2.frozen? ⟨b, 2, none⟩ = false := ((unhide HG).blk j b _ (unhide HJ)).frozen 2
      clear a0 a1 c0 c1 c2
      go_wp2_with fail
      go_ret2
      exact ⟨rfl, hide ((unhide HG).put (unhide HJ) 2 (.int .i64 (at' + (len : Int))) rfl ⟨(unhide HOK).node, by have := (unhide HLN).2 ha1 ha2; show 0 ≤ at' + (len : Int) ∧ at' + (len : Int) ≤ 100000; omega⟩)⟩
    · have hE1 : (RE != 0) = true := by simpa using hE
      rw [if_pos (show ((0 : Int) ≠ 0 ∨ RE ≠ 0) from .inr hE), if_neg (show ¬ (0 : Int) ≠ 0 by decide)]
      have HX : Hid (∀ W, GX W f q Y s nb n B l → GX W f q Y s nb n B (l.set j (b, { cl := false, node := nd, at' := at' + (([] : List UInt8).length : Int), fl := fl }))) := hide (fun W hW => by
        have e : (at' + (([] : List UInt8).length : Int)) = at' := by simp
        rw [e, set_at (unhide HJ)]
        exact hW)
      clear hE HJ HOK HLN
      go_enter Tryz.func226, Tryz.ntmps226
      go_wp2_with fail
      refine (unhide HR).mono ?_
      rintro e w1 ⟨rfl, hw1⟩
      subst hw1
      go_wp2_with fail
      go_region_held3 (fun w' => w'.cell? ⟨b, 0, none⟩ = some (.pointer (some ⟨f, 0, none⟩)) ∧ w'.cell? ⟨b, 1, none⟩ = some (.int .i64 nd) ∧ w'.cell? ⟨b, 2, none⟩ = some (.int .i64 at')) (go_keep) ((go_at_call 21; refine (unhide HF _ (by first | exact unhide HH | exact unhide HD _ _ (unhide HH))).mono ?_; rintro e w2 ⟨rfl, ⟨a0, a1, a2⟩, HG⟩))
      have HG2 := hide (unhide HX w2 (unhide HG))
      clear a0 a1 a2 c0 c1 c2
      go_wp2_with fail
      go_ret2
      exact ⟨rfl, HG2⟩
  · obtain ⟨E, hE⟩ : ∃ E, E = refuF x 1 := ⟨_, rfl⟩
    rw [← hE] at HR h0
    have hE1 : (E != 0) = true := by simpa using h0
    rw [← hE, if_pos (show (E ≠ 0 ∨ nrdE s x.node x.at' m ≠ 0) from .inl h0), if_pos h0]
    have HG : Hid (GX w f q Y s nb n B (l.set j (b, { x with at' := x.at' + (([] : List UInt8).length : Int) }))) := hide (by
      have e : ({ x with at' := x.at' + (([] : List UInt8).length : Int) } : Fl) = x := by simp
      rw [e, set_at hj]
      exact H)
    clear H hj hblk hok hE h0
    go_enter Tryz.func226, Tryz.ntmps226
    go_wp2_with fail
    refine (unhide HR).mono ?_
    rintro e w1 ⟨rfl, hw1⟩
    subst hw1
    go_wp2_with fail
    go_ret2
    exact ⟨rfl, HG⟩
/-- The node's size, where there is the node. -/
def endA (s : NS) (x : Fl) : Int := if kdI s.T x.node = 0 then x.at' else (statZ s x.node : Int)
/-- The place at which Write writes. -/
def xwrA (s : NS) (x : Fl) : Int := if hasF x.fl 4 then endA s x else x.at'
/-- What Write answers and leaves. -/
def XwrSp (s : NS) (nb : Nat) (x : Fl) (d : List UInt8) (N E : Int) (s' : NS) (x' : Fl) : Prop :=
  (refuF x 2 ≠ 0 ∧ N = 0 ∧ E = refuF x 2 ∧ s' = s ∧ x' = x) ∨ (refuF x 2 = 0 ∧ ∃ N1, WrtSp s nb x.node (xwrA s x) d N1 E s' ∧ N = (if E = 0 then N1 else 0) ∧ x' = { x with at' := if E = 0 then xwrA s x + N1 else xwrA s x })
theorem endA_rng {s : NS} {n : Nat} (K : NOk s n) (hn : n ≤ 10000) {x : Fl} (h : FlOk x) : 0 ≤ endA s x ∧ endA s x ≤ 100000 := by
  unfold endA
  split
  · exact h.at'
  · unfold statZ
    split
    · have := in_len K x.node
      omega
    · cases hx : ndAt s.T x.node with
      | none => simp [sizeOfN]
      | some y =>
        obtain ⟨k, _, hk, _⟩ := ndAt_some hx
        have := (K.gd k y hk).1.size
        simp only [sizeOfN]
        omega
theorem xwrA_rng {s : NS} {n : Nat} (K : NOk s n) (hn : n ≤ 10000) {x : Fl} (h : FlOk x) : 0 ≤ xwrA s x ∧ xwrA s x ≤ 100000 := by
  unfold xwrA
  split
  · exact endA_rng K hn h
  · exact h.at'
theorem wrt_rng {s s' : NS} {nb : Nat} {d a N : Int} {x : List UInt8} (h : WrtSp s nb d a x N 0 s') (h0 : 0 ≤ a) (h1 : a ≤ 100000) : 0 ≤ N ∧ a + N ≤ 100000 := by
  rcases h with ⟨e1, e2, e3, _⟩ | ⟨_, T', h, _⟩
  · exact absurd e3.symm e1
  · cases h with
    | empty x hx ha hd => exact ⟨by omega, by omega⟩
    | done x a' m hx ha hl hd hm hp =>
      have := hp.max
      exact ⟨by omega, by omega⟩
theorem at_set {l : List (Nat × Fl)} {j b : Nat} {x : Fl} (hj : l[j]? = some (b, x)) (y : Nat × Fl) : (l.set j y)[j]? = some y := by
  have hl : j < l.length := by
    rcases Nat.lt_or_ge j l.length with h2 | h2
    · exact h2
    · rw [List.getElem?_eq_none h2] at hj; cases hj
  exact List.getElem?_set_self hl
set_option maxRecDepth 20000 in
set_option maxHeartbeats 4000000 in
theorem goend_any {w : World} {f q nb n : Nat} {B : Bas} {Y : Nat → Prop} {s : NS} {l : List (Nat × Fl)} (H : GX w f q Y s nb n B l) {j b : Nat} {x : Fl} (hj : l[j]? = some (b, x)) (hnn : n ≤ 10000) (h1 : x.cl = false) : Calls Tryz.prog 221 #[.pointer (some ⟨b, 0, none⟩)] w fun e w' => e = .returned (.tuple #[]) ∧ Hid (GX w' f q Y s nb n B (l.set j (b, { x with at' := endA s x }))) := by
  have hblk := H.blk j b x hj
  have hok := H.ok j b x hj
  have hrg := endA_rng H.fx.nd.ok hnn hok
  have HST : Hid (∀ W, Below w.heap.size w W → Calls Tryz.prog 111 #[.pointer (some ⟨f, 0, none⟩), .int .i64 x.node] W fun e w' => e = .returned (.tuple #[.agg #[.int .i64 (statK s x.node : Int), .int .i64 (if kdI s.T x.node = 0 then 0 else (statZ s x.node : Int)), .int .i64 (if kdI s.T x.node = 0 then 0 else (nmI s.T x.node : Int))], .int .i64 (statE s x.node)]) ∧ Below W.heap.size W w' ∧ Below w.heap.size w w') := hide (fun W hW => (stat_any (H.below hW).fx x.node (by have := hok.node; omega)).mono (fun e w' h => ⟨h.1, h.2, hW.trans (h.2.mono hW.size)⟩))
  have HSE : Hid ((statE s x.node = 0 ∧ (if kdI s.T x.node = 0 then 0 else (statZ s x.node : Int)) = endA s x) ∨ (statE s x.node ≠ 0 ∧ x.at' = endA s x)) := hide (by
    unfold statE endA
    by_cases hk : kdI s.T x.node = 0
    · simp only [if_pos hk]
      exact .inr ⟨by decide, trivial⟩
    · simp only [if_neg hk]
      exact .inl ⟨trivial, trivial⟩)
  obtain ⟨EA, hEA⟩ : ∃ EA, EA = endA s x := ⟨_, rfl⟩
  rw [← hEA] at HSE hrg ⊢
  have HPUT : Hid (∀ W, GX W f q Y s nb n B l → GX (W.setCell ⟨b, 2, none⟩ (.int .i64 EA)) f q Y s nb n B (l.set j (b, { x with at' := EA }))) := hide (fun W h => h.put hj 2 (.int .i64 EA) rfl ⟨hok.node, hrg⟩)
  have HKEEP : Hid (x.at' = EA → ∀ W, GX W f q Y s nb n B l → GX W f q Y s nb n B (l.set j (b, { x with at' := EA }))) := hide (fun e W h => by
    rw [← e, show ({ x with at' := x.at' } : Fl) = x from rfl, set_at hj]
    exact h)
  have HGW : Hid (∀ W, Below w.heap.size w W → GX W f q Y s nb n B l) := hide (fun W h => H.below h)
  obtain ⟨cl, nd, at', fl⟩ := x
  simp only at h1 HST HSE HPUT HKEEP
  subst h1
  have c0 : w.cell? ⟨b, 0, none⟩ = some (.pointer (some ⟨f, 0, none⟩)) := hblk.cell 0 rfl
  have c1 : w.cell? ⟨b, 1, none⟩ = some (.int .i64 nd) := hblk.cell 1 rfl
  have HBD : Hid (∀ W, Below w.heap.size w W → Below w.heap.size w W.drew) := hide (fun W h => h.trans ((below_drew W 1).mono h.size))
  have HPB : Hid (∀ W, Below (w.alloc (.cells #[.int .i64 0, .int .i64 0, .int .i64 0] 205)).drew.heap.size (w.alloc (.cells #[.int .i64 0, .int .i64 0, .int .i64 0] 205)).drew W → (W.cell? ⟨w.heap.size, 0, none⟩ = some (.int .i64 0) ∧ W.cell? ⟨w.heap.size, 1, none⟩ = some (.int .i64 0) ∧ W.cell? ⟨w.heap.size, 2, none⟩ = some (.int .i64 0)) ∧ W.frozen? ⟨w.heap.size, 0, none⟩ = false ∧ W.frozen? ⟨w.heap.size, 1, none⟩ = false ∧ W.frozen? ⟨w.heap.size, 2, none⟩ = false) := hide (fun W hW => by
    have hk : Blk W w.heap.size 205 #[.int .i64 0, .int .i64 0, .int .i64 0] := Blk.below (w := (w.alloc (.cells #[.int .i64 0, .int .i64 0, .int .i64 0] 205)).drew) (Blk.new w 205 #[.int .i64 0, .int .i64 0, .int .i64 0]) hW (by simp [World.drew])
    exact ⟨⟨hk.cell 0 rfl, hk.cell 1 rfl, hk.cell 2 rfl⟩, hk.frozen 0, hk.frozen 1, hk.frozen 2⟩)
  have HBA : Hid (∀ o, Below w.heap.size w (w.alloc o)) := hide (fun o => (Below.refl _ w).alloc (Nat.le_refl _) o)
  have HC : Hid (∀ W, Below w.heap.size w W → (W.cell? ⟨b, 0, none⟩ = some (.pointer (some ⟨f, 0, none⟩)) ∧ W.cell? ⟨b, 1, none⟩ = some (.int .i64 nd)) ∧ W.cell? ⟨b, 2, none⟩ = some (.int .i64 at') ∧ W.frozen? ⟨b, 2, none⟩ = false) := hide (fun W hW => ⟨⟨(hblk.below hW hblk.lt).cell 0 rfl, (hblk.below hW hblk.lt).cell 1 rfl⟩, (hblk.below hW hblk.lt).cell 2 rfl, (hblk.below hW hblk.lt).frozen 2⟩)
  obtain ⟨sk, hsk⟩ : ∃ sk : Int, sk = (statK s nd : Int) := ⟨_, rfl⟩
  obtain ⟨sz, hsz⟩ : ∃ sz : Int, sz = (if kdI s.T nd = 0 then 0 else (statZ s nd : Int)) := ⟨_, rfl⟩
  obtain ⟨sn, hsn⟩ : ∃ sn : Int, sn = (if kdI s.T nd = 0 then 0 else (nmI s.T nd : Int)) := ⟨_, rfl⟩
  obtain ⟨se, hse⟩ : ∃ se : Int, se = statE s nd := ⟨_, rfl⟩
  rw [← hsk, ← hsz, ← hsn, ← hse] at HST
  rw [← hsz, ← hse] at HSE
  clear hsk hsz hsn hse H hj hblk hok hrg hEA
  go_enter Tryz.func221, Tryz.ntmps221
  go_wp2_with fail
  have y0 : (w.alloc (.cells #[.int .i64 0, .int .i64 0, .int .i64 0] 205)).cell? ⟨b, 0, none⟩ = some (.pointer (some ⟨f, 0, none⟩)) := (unhide HC _ (unhide HBA _)).1.1
  have y1 : (w.alloc (.cells #[.int .i64 0, .int .i64 0, .int .i64 0] 205)).cell? ⟨b, 1, none⟩ = some (.int .i64 nd) := (unhide HC _ (unhide HBA _)).1.2
  go_region_with ((go_at_call 111; refine (unhide HST _ (by first | exact Below.refl _ _ | exact below_drew _ _ | exact unhide HBA _ | exact unhide HBD _ (unhide HBA _))).mono ?_; rintro e w2 ⟨rfl, b1, b2⟩; obtain ⟨a0, a1⟩ := (unhide HC w2 b2).1; (first | (have hq := unhide HPB w2 b1; obtain ⟨⟨p0, p1, p2⟩, p3, p4, p5⟩ := hq) | skip); have HB1 := hide b1; have HB2 := hide b2; clear b1 b2))
  all_goals
    have HBA2 : Hid (Below w.heap.size w (w2.alloc (.cells #[.int .i64 sk, .int .i64 sz, .int .i64 sn] 205))) := hide ((unhide HB2).alloc (unhide HB2).size _)
    have HBS2 : Hid (Below w.heap.size w (((w2.setCell ⟨w.heap.size, 0, none⟩ (.int .i64 sk)).setCell ⟨w.heap.size, 1, none⟩ (.int .i64 sz)).setCell ⟨w.heap.size, 2, none⟩ (.int .i64 sn))) := hide (below_set3 (unhide HB2) (Nat.le_refl _) _ _ _)
    have zA0 := (unhide HC _ (unhide HBA2)).2.1
    have zA1 := (unhide HC _ (unhide HBA2)).2.2
    have zS0 := (unhide HC _ (unhide HBS2)).2.1
    have zS1 := (unhide HC _ (unhide HBS2)).2.2
    have HGA := hide (unhide HGW _ (unhide HBA2))
    have HGB := hide (unhide HGW _ (unhide HBS2))
    rcases unhide HSE with ⟨e1, e2⟩ | ⟨e1, e2⟩
    · subst e1
      subst e2
      go_wp2_with fail
      refine bodyPost_end (res0 rfl _ _) rfl ?_
      exact ⟨rfl, by first | exact hide (unhide HPUT _ (unhide HGA)) | exact hide (unhide HPUT _ (unhide HGB))⟩
    · have e3 : (se == 0) = false := by simpa using e1
      have HE2 := hide e2
      clear e1 e2
      go_wp2_with fail
      refine bodyPost_end (res0 rfl _ _) rfl ?_
      exact ⟨rfl, by first | exact hide (unhide HKEEP (unhide HE2) _ (unhide HGA)) | exact hide (unhide HKEEP (unhide HE2) _ (unhide HGB))⟩
set_option maxRecDepth 20000 in
set_option maxHeartbeats 4000000 in
theorem xwrite_any {w : World} {f q nb n : Nat} {B : Bas} {Y : Nat → Prop} {s : NS} {l : List (Nat × Fl)} (H : GX w f q Y s nb n B l) {j b : Nat} {x : Fl} (hj : l[j]? = some (b, x)) (hnn : n ≤ 10000) (d : List UInt8) (hd : d.length ≤ 100000) : Calls Tryz.prog 227 #[.pointer (some ⟨b, 0, none⟩), .string (BA d)] w fun e w' => ∃ N E, e = .returned (.tuple #[.int .i64 N, .int .i64 E]) ∧ Hid (∃ s' x', XwrSp s nb x d N E s' x' ∧ GX w' f q Y s' nb (n + 1) B (l.set j (b, x'))) := by
  have hblk := H.blk j b x hj
  have HR := hide (frefuse_any hblk 2)
  have hok := H.ok j b x hj
  by_cases h0 : refuF x 2 = 0
  · obtain ⟨h1, h2⟩ := refu_no h0
    rw [h0] at HR
    have hrg := xwrA_rng H.fx.nd.ok hnn hok
    have HHA := hide (has_any x.fl 4 w)
    have HEND : Hid (∀ N E s', WrtSp s nb x.node (xwrA s x) d N E s' → XwrSp s nb x d (if E = 0 then N else 0) E s' { x with at' := if E = 0 then xwrA s x + N else xwrA s x }) := hide (fun N E s' h => .inr ⟨h0, N, h, rfl, rfl⟩)
    have HGE : Hid (hasF x.fl 4 = true → Calls Tryz.prog 221 #[.pointer (some ⟨b, 0, none⟩)] w fun e w' => e = .returned (.tuple #[]) ∧ Hid (GX w' f q Y s nb n B (l.set j (b, { x with at' := xwrA s x })))) := hide (fun h => by
      unfold xwrA
      rw [if_pos h]
      exact goend_any H hj hnn h1)
    have HNE : Hid (hasF x.fl 4 = false → GX w f q Y s nb n B (l.set j (b, { x with at' := xwrA s x }))) := hide (fun h => by
      unfold xwrA
      rw [h, if_neg (by decide), show ({ x with at' := x.at' } : Fl) = x from rfl, set_at hj]
      exact H)
    have hj1 := at_set hj (b, ({ x with at' := xwrA s x } : Fl))
    have hss : ∀ y, (l.set j (b, ({ x with at' := xwrA s x } : Fl))).set j y = l.set j y := fun y => List.set_set ..
    obtain ⟨a, ha⟩ : ∃ a, a = xwrA s x := ⟨_, rfl⟩
    rw [← ha] at hrg HEND HGE HNE hj1 hss
    obtain ⟨l1, hl1⟩ : ∃ l1, l1 = l.set j (b, ({ x with at' := a } : Fl)) := ⟨_, rfl⟩
    rw [← hl1] at HGE HNE hj1 hss
    obtain ⟨ha1, ha2⟩ := hrg
    obtain ⟨cl, nd, at', fl⟩ := x
    simp only at h1 h2 HHA HEND HGE HNE hj1
    subst h1
    have HCS : Hid (∀ W s' n', GX W f q Y s' nb n' B l1 → W.cell? ⟨b, 0, none⟩ = some (.pointer (some ⟨f, 0, none⟩)) ∧ W.cell? ⟨b, 1, none⟩ = some (.int .i64 nd) ∧ W.cell? ⟨b, 2, none⟩ = some (.int .i64 a)) := hide (fun W s' n' h => by
      have h3 := h.blk j b _ hj1
      exact ⟨h3.cell 0 rfl, h3.cell 1 rfl, h3.cell 2 rfl⟩)
    have HW : Hid (∀ W, GX W f q Y s nb n B l1 → Calls Tryz.prog 230 #[.pointer (some ⟨f, 0, none⟩), .int .i64 nd, .int .i64 a, .string (BA d)] W fun e w' => ∃ N E, e = .returned (.tuple #[.int .i64 N, .int .i64 E]) ∧ (w'.cell? ⟨b, 0, none⟩ = some (.pointer (some ⟨f, 0, none⟩)) ∧ w'.cell? ⟨b, 1, none⟩ = some (.int .i64 nd) ∧ w'.cell? ⟨b, 2, none⟩ = some (.int .i64 a)) ∧ Hid (∃ s', WrtSp s nb nd a d N E s' ∧ GX w' f q Y s' nb (n + 1) B l1)) := hide (fun W hW => ((fwrite_any hW.fx.rebased nd a d (by have h := hok.node; simp only at h; omega) (by omega) hd).mono (fun e w' h => by
      obtain ⟨N, E, e1, e2⟩ := h
      obtain ⟨s', e3, e4⟩ := unhide e2
      have h2 := hW.tree e4
      exact ⟨N, E, e1, unhide HCS _ _ _ h2, hide ⟨s', e3, h2⟩⟩)))
    have HD : Hid (∀ W k, GX W f q Y s nb n B l1 → GX (W.drewN k) f q Y s nb n B l1) := hide (fun W k h => h.below (below_drew _ _))
    have c3 : w.cell? ⟨b, 3, none⟩ = some (.int .i64 fl) := hblk.cell 3 rfl
    have hnd : 0 ≤ nd ∧ nd ≤ 1024 := hok.node
    have HFIN : Hid (∀ (w3 : World) (N E : Int), (∃ s', WrtSp s nb nd a d N E s' ∧ GX w3 f q Y s' nb (n + 1) B l1) → (E = 0 → ∃ s' x', XwrSp s nb ⟨false, nd, at', fl⟩ d N E s' x' ∧ GX (w3.setCell ⟨b, 2, none⟩ (.int .i64 (a + N))) f q Y s' nb (n + 1) B (l.set j (b, x'))) ∧ (E ≠ 0 → ∃ s' x', XwrSp s nb ⟨false, nd, at', fl⟩ d 0 E s' x' ∧ GX w3 f q Y s' nb (n + 1) B (l.set j (b, x'))) ∧ w3.frozen? ⟨b, 2, none⟩ = false ∧ (E = 0 → 0 ≤ N ∧ a + N ≤ 100000)) := hide (fun w3 N E h => by
      obtain ⟨s', h3, h4⟩ := h
      have hE := unhide HEND N E s' h3
      have hb3 := h4.blk j b _ hj1
      refine ⟨fun e => ?_, fun e => ?_, hb3.frozen 2, fun e => ?_⟩
      · subst e
        rw [if_pos rfl, if_pos rfl] at hE
        have hr := wrt_rng h3 ha1 ha2
        have h5 := h4.put hj1 2 (.int .i64 (a + N)) (x' := ⟨false, nd, a + N, fl⟩) rfl ⟨hnd, by show 0 ≤ a + N ∧ a + N ≤ 100000; omega⟩
        rw [hss] at h5
        exact ⟨s', _, hE, h5⟩
      · rw [if_neg e, if_neg e] at hE
        refine ⟨s', _, hE, ?_⟩
        rw [← hl1]
        exact h4
      · subst e
        exact wrt_rng h3 ha1 ha2)
    obtain ⟨A, hA⟩ : ∃ A, A = BA d := ⟨_, rfl⟩
    rw [← hA] at HW ⊢
    obtain ⟨hf, hhf⟩ : ∃ hf, hf = hasF fl 4 := ⟨_, rfl⟩
    rw [← hhf] at HHA HGE HNE
    clear H hj hblk hok h0 h2 hA hhf HEND ha hd hj1 hss hl1 hnd
    cases hf with
    | true =>
      have HGE2 := hide (unhide HGE rfl)
      clear HGE HNE
      go_enter Tryz.func227, Tryz.ntmps227
      go_wp2_with fail
      refine (unhide HR).mono ?_
      rintro e w1 ⟨rfl, hw1⟩
      subst hw1
      go_wp2_with fail
      refine (unhide HHA).mono ?_
      rintro e w1 ⟨rfl, hw1⟩
      subst hw1
      go_wp2_with fail
      refine (unhide HGE2).mono ?_
      rintro e w2 ⟨rfl, HH⟩
      clear HGE2 c3
      have c0 := (unhide HCS _ _ _ (unhide HH)).1
      have c1 := (unhide HCS _ _ _ (unhide HH)).2.1
      have c2 := (unhide HCS _ _ _ (unhide HH)).2.2
      go_wp2_with fail
      go_region_held3 (fun w' => w'.cell? ⟨b, 0, none⟩ = some (.pointer (some ⟨f, 0, none⟩)) ∧ w'.cell? ⟨b, 1, none⟩ = some (.int .i64 nd) ∧ w'.cell? ⟨b, 2, none⟩ = some (.int .i64 a)) (go_keep) ((go_at_call 230; refine (unhide HW _ (by first | exact unhide HH | exact unhide HD _ _ (unhide HH))).mono ?_; rintro e w3 ⟨N, E, rfl, ⟨a0, a1, a2⟩, HX⟩))
      clear c0 c1 c2
      obtain ⟨k1, k2, k4, k5⟩ := unhide HFIN w3 N E (unhide HX)
      have HK1 := hide k1
      have HK2 := hide k2
      have HK5 := hide k5
      clear HX k1 k2 k5 a0 a1
      by_cases hE : E = 0
      · subst hE
        obtain ⟨k6, k7⟩ := unhide HK5 rfl
        go_wp2_with fail
        go_ret2
        exact ⟨_, _, rfl, hide (unhide HK1 trivial)⟩
      · have hE1 : (E != 0) = true := by simpa using hE
        have HX := hide (unhide HK2 hE)
        clear hE
        go_wp2_with fail
        go_ret2
        exact ⟨_, _, rfl, HX⟩
    | false =>
      have HH := hide (unhide HNE rfl)
      have c0 := (unhide HCS _ _ _ (unhide HH)).1
      have c1 := (unhide HCS _ _ _ (unhide HH)).2.1
      have c2 := (unhide HCS _ _ _ (unhide HH)).2.2
      clear HGE HNE
      go_enter Tryz.func227, Tryz.ntmps227
      go_wp2_with fail
      refine (unhide HR).mono ?_
      rintro e w1 ⟨rfl, hw1⟩
      subst hw1
      go_wp2_with fail
      refine (unhide HHA).mono ?_
      rintro e w1 ⟨rfl, hw1⟩
      subst hw1
      go_wp2_with fail
      go_region_held3 (fun w' => w'.cell? ⟨b, 0, none⟩ = some (.pointer (some ⟨f, 0, none⟩)) ∧ w'.cell? ⟨b, 1, none⟩ = some (.int .i64 nd) ∧ w'.cell? ⟨b, 2, none⟩ = some (.int .i64 a)) (go_keep) ((go_at_call 230; refine (unhide HW _ (by first | exact unhide HH | exact unhide HD _ _ (unhide HH))).mono ?_; rintro e w3 ⟨N, E, rfl, ⟨a0, a1, a2⟩, HX⟩))
      clear c0 c1 c2
      obtain ⟨k1, k2, k4, k5⟩ := unhide HFIN w3 N E (unhide HX)
      have HK1 := hide k1
      have HK2 := hide k2
      have HK5 := hide k5
      clear HX k1 k2 k5 a0 a1
      by_cases hE : E = 0
      · subst hE
        obtain ⟨k6, k7⟩ := unhide HK5 rfl
        go_wp2_with fail
        go_ret2
        exact ⟨_, _, rfl, hide (unhide HK1 trivial)⟩
      · have hE1 : (E != 0) = true := by simpa using hE
        have HX := hide (unhide HK2 hE)
        clear hE
        go_wp2_with fail
        go_ret2
        exact ⟨_, _, rfl, HX⟩
  · obtain ⟨E, hE⟩ : ∃ E, E = refuF x 2 := ⟨_, rfl⟩
    have HX : Hid (∃ s' x', XwrSp s nb x d 0 E s' x' ∧ GX w f q Y s' nb (n + 1) B (l.set j (b, x'))) := hide ⟨s, x, .inl ⟨h0, rfl, hE, rfl, rfl⟩, by rw [set_at hj]; exact H.mono (Nat.le_succ _)⟩
    rw [← hE] at HR h0
    have hE1 : (E != 0) = true := by simpa using h0
    clear H hj hblk hok hE h0 hd
    go_enter Tryz.func227, Tryz.ntmps227
    go_wp2_with fail
    refine (unhide HR).mono ?_
    rintro e w1 ⟨rfl, hw1⟩
    subst hw1
    go_wp2_with fail
    go_ret2
    exact ⟨_, _, rfl, HX⟩
theorem has_zero (fl : Int) : hasF fl 0 = true := by
  unfold hasF bits
  simp
  rfl
theorem refu_zero (x : Fl) : refuF x 0 = if x.cl then 28 else 0 := by
  unfold refuF
  rw [has_zero]
  rfl
def xclS (s : NS) (x : Fl) : NS := if x.cl then s else looS s x.node
set_option maxRecDepth 20000 in
set_option maxHeartbeats 1000000 in
theorem xclose_any {w : World} {f q nb n : Nat} {B : Bas} {Y : Nat → Prop} {s : NS} {l : List (Nat × Fl)} (H : GX w f q Y s nb n B l) {j b : Nat} {x : Fl} (hj : l[j]? = some (b, x)) (hnn : n ≤ 10000) : Calls Tryz.prog 225 #[.pointer (some ⟨b, 0, none⟩)] w fun e w' => e = .returned (.int .i64 (if x.cl then 28 else 0)) ∧ Hid (GX w' f q Y (xclS s x) nb (n + 1) B (l.set j (b, { x with cl := true }))) := by
  have hblk := H.blk j b x hj
  have HR := hide (frefuse_any hblk 0)
  rw [refu_zero] at HR
  have hok := H.ok j b x hj
  have HL : Hid (∀ W, GX W f q Y s nb n B l → Calls Tryz.prog 229 #[.pointer (some ⟨f, 0, none⟩), .int .i64 x.node] W fun e w' => e = .returned (.int .i64 (looE s.T x.node)) ∧ (w'.cell? ⟨b, 0, none⟩ = some (.pointer (if x.cl then none else some ⟨f, 0, none⟩)) ∧ w'.cell? ⟨b, 1, none⟩ = some (.int .i64 x.node)) ∧ Hid (GX w' f q Y (looS s x.node) nb (n + 1) B l)) := hide (fun W hW => (nloose_any hW.fx.rebased hnn x.node (by have := hok.node; omega)).mono (fun e w' h => by
    have h2 := hW.tree (unhide h.2)
    have h3 := h2.blk j b x hj
    exact ⟨h.1, ⟨h3.cell 0 rfl, h3.cell 1 rfl⟩, hide h2⟩))
  have HD : Hid (∀ W k, GX W f q Y s nb n B l → GX (W.drewN k) f q Y s nb n B l) := hide (fun W k h => h.below (below_drew _ _))
  have HJ := hide hj
  have HOK := hide hok
  have HH := hide H
  obtain ⟨cl, nd, at', fl⟩ := x
  unfold xclS
  simp only at HR HL ⊢
  have c1 : w.cell? ⟨b, 1, none⟩ = some (.int .i64 nd) := hblk.cell 1 rfl
  cases cl with
  | true =>
    simp only [if_true] at HR ⊢
    have HX : Hid (GX w f q Y s nb (n + 1) B (l.set j (b, ⟨true, nd, at', fl⟩))) := hide (by rw [set_at hj]; exact H.mono (Nat.le_succ _))
    clear H hj hblk hok c1
    go_enter Tryz.func225, Tryz.ntmps225
    go_wp2_with fail
    refine (unhide HR).mono ?_
    rintro e w1 ⟨rfl, hw1⟩
    subst hw1
    go_wp2_with fail
    go_ret
    exact ⟨rfl, HX⟩
  | false =>
    have c0 : w.cell? ⟨b, 0, none⟩ = some (.pointer (some ⟨f, 0, none⟩)) := hblk.cell 0 rfl
    simp only [Bool.false_eq_true, if_false] at HR HL ⊢
    obtain ⟨LE, hLE⟩ : ∃ LE, LE = looE s.T nd := ⟨_, rfl⟩
    rw [← hLE] at HL
    clear H hj hblk hok hLE
    go_enter Tryz.func225, Tryz.ntmps225
    go_wp2_with fail
    refine (unhide HR).mono ?_
    rintro e w1 ⟨rfl, hw1⟩
    subst hw1
    go_wp2_with fail
    go_region_held3 (fun w' => w'.cell? ⟨b, 0, none⟩ = some (.pointer (some ⟨f, 0, none⟩)) ∧ w'.cell? ⟨b, 1, none⟩ = some (.int .i64 nd)) (go_keep) ((go_at_call 229; refine (unhide HL _ (by first | exact unhide HH | exact unhide HD _ _ (unhide HH))).mono ?_; rintro e w2 ⟨rfl, ⟨a0, a1⟩, HG⟩))
    have hb2 := (unhide HG).blk j b _ (unhide HJ)
    have d2 : w2.cell? ⟨b, 0, none⟩ = some (.pointer (some ⟨f, 0, none⟩)) := hb2.cell 0 rfl
    have d3 : w2.frozen? ⟨b, 0, none⟩ = false := hb2.frozen 0
    clear c0 c1 a0 a1 hb2
    go_wp2_with fail
    go_ret
    exact ⟨rfl, hide ((unhide HG).put (unhide HJ) 0 (.pointer none) rfl ⟨(unhide HOK).node, (unhide HOK).at'⟩)⟩

end Go.Proofs.YtemologkibcdoaaGreatDoor

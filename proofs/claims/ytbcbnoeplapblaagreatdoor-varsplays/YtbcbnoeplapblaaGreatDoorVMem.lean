/-
  Variables in memory.
-/
import Derived.Test.YtbcbnoeplapblaaGreatDoorVPure
import Derived.Test.YtbcbnoeplapblaaGreatDoorGrw
import Derived.Maps.OwnSet
import Derived.MapKept
namespace Go.Proofs.YtbcbnoeplapblaaGreatDoor
open Go.RowKit Go.Maps

/-- An element is read as itself. -/
def itself (v : Value) : Option (DataW Value × List MemPlace) := some (.held v, [])
theorem strKeyed : Keyed Tryz.prog 9 := string_keyed Tryz.underlying9
theorem hk_str (l : List UInt8) (h : l.length ≤ maxLen) : keyOf Tryz.prog 9 (.string (BA l)) = some (.string l) := WideMaps.keyOf_string_mk Tryz.underlying9 (by rw [BA_size]; exact h)
def encV (x : Vr) : Lit × DataW Value := (.string x.name, .held x.val)
def datV (L : List Vr) : DataW Value := .map (L.map encV)
theorem at_find (n : List UInt8) (z : DataW Value) : ∀ L : List Vr, (datV L).atKey (.string n) z = match L.find? (fun x => x.name == n) with | some x => .held x.val | none => z
  | [] => rfl
  | x :: L => by
    have ih := at_find n z L
    unfold datV DataW.atKey at ih ⊢
    simp only [List.map_cons, List.find?_cons] at ih ⊢
    have e : (encV x).1.sameKey (.string n) = (x.name == n) := rfl
    rw [e]
    cases x.name == n with
    | true => rfl
    | false => exact ih
theorem at_get (L : List Vr) (n : List UInt8) : (datV L).atKey (.string n) (.held vr0.val) = .held (getL L n).val := by
  rw [at_find]
  unfold getL
  cases L.find? (fun x => x.name == n) <;> rfl
theorem ins_enc (x : Vr) : ∀ L : List Vr, DataW.insert (encV x) (L.map encV) = (insL x L).map encV
  | [] => rfl
  | y :: L => by
    rw [List.map_cons, DataW.insert, insL, ins_enc x L]
    show (if bytesBefore x.name y.name = true then _ else _) = _
    split <;> rfl
theorem del_enc (n : List UInt8) (L : List Vr) : (L.map encV).filter (fun p => !p.1.sameKey (.string n)) = (delL L n).map encV := by
  unfold delL
  rw [List.filter_map]
  rfl
theorem put_enc (L : List Vr) (x : Vr) : (datV L).put (.string x.name) (.held x.val) = datV (putL L x) := by
  unfold datV DataW.put putL
  simp only
  rw [del_enc]
  exact congrArg DataW.map (ins_enc x _)
theorem drop_enc (L : List Vr) (n : List UInt8) : (datV L).del (.string n) = datV (delL L n) := by
  unfold datV DataW.del
  simp only
  rw [del_enc]

/-- The map m holds these. -/
def MOwn (w : World) (m : Option Nat) (L : List Vr) : Prop := (m = none ∧ L = []) ∨ ∃ r, m = some r ∧ w.ownsMap Tryz.prog 9 itself r L.length (datV L)
theorem owns_len {w : World} {r n : Nat} {L : List Vr} (h : w.ownsMap Tryz.prog 9 itself r n (datV L)) : w.ownsMap Tryz.prog 9 itself r L.length (datV L) := by
  obtain ⟨es, clock, h1, h2, _, h4⟩ := h
  refine ⟨es, clock, h1, h2, ?_, h4⟩
  have := congrArg (fun D => match D with | DataW.map l => l.length | _ => 0) h4
  simp only [datV, List.length_map, length_sorted, Array.length_toList] at this
  omega
theorem zero_vr (w : World) : (zeroValue 61).run Tryz.prog w = .ok vr0.val w := by
  have := Tryz.zeroValue61
  exact this w
theorem und_map : Tryz.prog.underlying 53 = some (.map 9 61) := by kernel_rfl
/-- m[name]. -/
theorem MOwn.look {w : World} {m : Option Nat} {L : List Vr} (h : MOwn w m L) (n : List UInt8) (hn : n.length ≤ maxLen) : (Instr.lookup 53 (.map m) (.string (BA n)) false).run Tryz.prog w = .ok (getL L n).val w := by
  rcases h with ⟨rfl, rfl⟩ | ⟨r, rfl, ho⟩
  · exact look_nil false strKeyed und_map (zero_vr w) (hk_str n hn)
  · obtain ⟨v, ps, h1, h2⟩ := ho.lookup strKeyed und_map (zero_vr w) (zd := .held vr0.val) (zp := []) rfl (hk_str n hn)
    rw [at_get] at h2
    have : v = (getL L n).val := DataW.held.inj (Prod.mk.inj (Option.some.inj h2)).1
    rw [← this]
    exact h1

/-- The slice v holds these texts; its block is no other thing's. -/
def AOwn (w : World) (v : Value) (l : List (List UInt8)) : Prop := (v = .slice none 0 0 ∧ l = []) ∨ ∃ g o cap cs, v = .slice (some ⟨g, o, none⟩) l.length cap ∧ l.length ≤ cap ∧ cap ≤ maxLen ∧ w.heap[g]? = some (.cells cs 9 (0, 0)) ∧ o + cap ≤ cs.size ∧ ∀ i x, l[i]? = some x → cs[o + i]? = some (.string (BA x))
/-- What a shell has, at block b; all its blocks are of X. -/
def VAt (w : World) (b : Nat) (X : Nat → Prop) (s : VSt) : Prop := ∃ v m, Blk w b 55 #[.string (BA s.zero), v, .map m, .int .i64 s.st] ∧ AOwn w v s.args ∧ MOwn w m s.L ∧ X b ∧ (∀ k, v.ownBlock = some k → X k) ∧ (∀ k, m = some k → X k)
theorem AOwn.lt {w : World} {v : Value} {l : List (List UInt8)} (h : AOwn w v l) {k : Nat} (hk : v.ownBlock = some k) : k < w.heap.size := by
  rcases h with ⟨rfl, _⟩ | ⟨g, o, cap, cs, rfl, _, _, hg, _⟩
  · cases hk
  · injection hk with hk
    subst hk
    exact (Array.getElem?_eq_some_iff.1 hg).1
theorem MOwn.lt {w : World} {m : Option Nat} {L : List Vr} (h : MOwn w m L) {k : Nat} (hk : m = some k) : k < w.heap.size := by
  rcases h with ⟨rfl, _⟩ | ⟨r, rfl, ho⟩
  · cases hk
  · injection hk with hk
    subst hk
    exact ho.lt
theorem AOwn.grown {w w' : World} {v : Value} {l : List (List UInt8)} {S : Nat → Prop} (h : AOwn w v l) (hg : GrownS w w' S) (hv : ∀ k, v.ownBlock = some k → ¬ S k) : AOwn w' v l := by
  rcases h with h | ⟨g, o, cap, cs, rfl, h1, h2, h3, h4, h5⟩
  · exact .inl h
  · exact .inr ⟨g, o, cap, cs, rfl, h1, h2, (hg.block g (Array.getElem?_eq_some_iff.1 h3).1 (hv g rfl)).trans h3, h4, h5⟩
theorem MOwn.grown {w w' : World} {m : Option Nat} {L : List Vr} {S : Nat → Prop} (h : MOwn w m L) (hg : GrownS w w' S) (hm : ∀ k, m = some k → ¬ S k) : MOwn w' m L := by
  rcases h with h | ⟨r, rfl, es, clock, h1, h2, h3, h4⟩
  · exact .inl h
  · exact .inr ⟨r, rfl, es, clock, (hg.block r (Array.getElem?_eq_some_iff.1 h1).1 (hm r rfl)).trans h1, h2, h3, h4⟩
theorem VAt.lt {w : World} {b : Nat} {X : Nat → Prop} {s : VSt} (h : VAt w b X s) : b < w.heap.size := by
  obtain ⟨v, m, h1, _⟩ := h
  exact h1.lt
/-- What turns none of its blocks keeps it. -/
theorem VAt.grown {w w' : World} {b : Nat} {X S : Nat → Prop} {s : VSt} (h : VAt w b X s) (hg : GrownS w w' S) (hd : ∀ k, X k → k < w.heap.size → ¬ S k) : VAt w' b X s := by
  obtain ⟨v, m, h1, h2, h3, x1, x2, x3⟩ := h
  exact ⟨v, m, h1.grownS hg (hd b x1 h1.lt), h2.grown hg (fun k hk => hd k (x2 k hk) (h2.lt hk)), h3.grown hg (fun k hk => hd k (x3 k hk) (h3.lt hk)), x1, x2, x3⟩
theorem VAt.below {w w' : World} {b : Nat} {X : Nat → Prop} {s : VSt} (h : VAt w b X s) (hg : Below w.heap.size w w') : VAt w' b X s := h.grown (grownS_of_below (S := fun _ => False) hg) (fun _ _ _ e => e)
theorem VAt.mono {w : World} {b : Nat} {X Y : Nat → Prop} {s : VSt} (h : VAt w b X s) (hXY : ∀ k, X k → Y k) : VAt w b Y s := by
  obtain ⟨v, m, h1, h2, h3, x1, x2, x3⟩ := h
  exact ⟨v, m, h1, h2, h3, hXY _ x1, fun k hk => hXY _ (x2 k hk), fun k hk => hXY _ (x3 k hk)⟩
/-- Its block is no row's and no map's. -/
theorem blk_row {w : World} {b : Nat} {cs : Array Value} {v : Value} {l : List (List UInt8)} (h : Blk w b 55 cs) (h2 : AOwn w v l) : v.ownBlock ≠ some b := by
  rcases h2 with ⟨rfl, _⟩ | ⟨g, o, cap, cs', rfl, _, _, hg, _⟩
  · exact fun e => by cases e
  · intro e
    injection e with e
    have e : g = b := e
    subst e
    rw [show w.heap[g]? = _ from h] at hg
    injection hg with hg
    injection hg with _ e2 _
    exact absurd e2 (by decide)
theorem blk_map {w : World} {b : Nat} {cs : Array Value} {t : TypeId} {m : Option Nat} {L : List Vr} (h : Blk w b t cs) (h2 : MOwn w m L) : m ≠ some b := by
  rcases h2 with ⟨rfl, _⟩ | ⟨r, rfl, es, clock, h1, _⟩
  · exact fun e => by cases e
  · intro e
    injection e with e
    subst e
    rw [show w.heap[r]? = _ from h] at h1
    cases h1
theorem row_map {w : World} {v : Value} {l : List (List UInt8)} {m : Option Nat} {L : List Vr} (h : AOwn w v l) (h2 : MOwn w m L) {k : Nat} (hk : v.ownBlock = some k) : m ≠ some k := by
  rcases h with ⟨rfl, _⟩ | ⟨g, o, cap, cs', rfl, _, _, hg, _⟩
  · cases hk
  · injection hk with hk
    subst hk
    rcases h2 with ⟨rfl, _⟩ | ⟨r, rfl, es, clock, h1, _⟩
    · exact fun e => by cases e
    · intro e
      injection e with e
      subst e
      rw [hg] at h1
      cases h1
theorem AOwn.len {w : World} {v : Value} {l : List (List UInt8)} (h : AOwn w v l) : ∃ ad cap, v = .slice ad l.length cap ∧ l.length ≤ cap ∧ cap ≤ maxLen := by
  rcases h with ⟨rfl, rfl⟩ | ⟨g, o, cap, cs, rfl, h1, h2, _⟩
  · exact ⟨none, 0, rfl, by simp, Nat.zero_le _⟩
  · exact ⟨_, cap, rfl, h1, h2⟩
theorem AOwn.cell {w : World} {g o n cap : Nat} {l : List (List UInt8)} (h : AOwn w (.slice (some ⟨g, o, none⟩) n cap) l) {i : Nat} {x : List UInt8} (hi : l[i]? = some x) : w.cell? ⟨g, o + i, none⟩ = some (.string (BA x)) := by
  rcases h with ⟨h, _⟩ | ⟨g', o', cap', cs, h, _, _, hg, _, hc⟩
  · cases h
  · cases h
    simp [World.cell?, hg, hc i x hi]
/-- A row of texts that a call has made. -/
theorem AOwn.of_row {w : World} {base n : Nat} {v : Value} {l : List (List UInt8)} (h : w.ownsRow base 9 1 v n (l.map fun x => .string (BA x))) (hn : n = l.length) : AOwn w v l ∧ ∀ k, v.ownBlock = some k → base ≤ k := by
  subst hn
  obtain ⟨h0, ⟨rfl, h1⟩ | ⟨g, cap, cur, rfl, hb, hg, hle, hm, hsz, htk⟩⟩ := h
  · exact ⟨.inl ⟨rfl, List.eq_nil_of_length_eq_zero h1⟩, fun k hk => by cases hk⟩
  · refine ⟨.inr ⟨g, 0, cap, cur, rfl, hle, hm, hg, by omega, fun i x hi => ?_⟩, fun k hk => ?_⟩
    · have hil := (List.getElem?_eq_some_iff.1 hi).1
      have e1 : (cur.toList.take (l.length * 1))[i]? = some (.string (BA x)) := by rw [htk, List.getElem?_map, hi]; rfl
      rw [List.getElem?_take, if_pos (by omega)] at e1
      simpa using e1
    · injection hk with hk
      subst hk
      exact hb

end Go.Proofs.YtbcbnoeplapblaaGreatDoor

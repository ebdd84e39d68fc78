/-
  Both stores beside one another, and the call that is played.
-/
import Derived.Test.YtfolnccpnncmiaaBRef2
import Derived.Test.YtfolnccpnncmiaaBStart
namespace Go.Proofs.Ytfolnccpnncmiaa
open Go.RowKit

/-- In W the program's store at p has l, the document's at q has l'. -/
structure DD (w W : World) (p g h q r : Nat) (l l' : BL) : Prop where
  held : Held w W p g h l
  ref : RBAt W q r l'
  wq : w.heap.size ≤ q
  wr : w.heap.size ≤ r
theorem DD.apart {w W : World} {p g h q r : Nat} {l l' : BL} (H : DD w W p g h q r l l') : q ≠ g ∧ q ≠ h ∧ r ≠ g ∧ r ≠ h ∧ r ≠ p := by
  obtain ⟨_, c, d, cs, ds, k1, k2, k3, _⟩ := H.held.1
  obtain ⟨_, c', cs', j1, j2, _⟩ := H.ref
  exact ⟨blk_ne j1 k2 (by decide), blk_ne j1 k3 (by decide), blk_ne j2 k2 (by decide), blk_ne j2 k3 (by decide), blk_ne j2 k1 (by decide)⟩
theorem DD.prog {w W W' : World} {p g h q r : Nat} {l l' l2 : BL} (H : DD w W p g h q r l l') (h2 : Held w W' p g h l2) (ho : Own2 W W' g h) : DD w W' p g h q r l2 l' := by
  have ha := H.apart
  exact ⟨h2, H.ref.grownS ho (fun e => by rcases e with e | e; exact ha.1 e; exact ha.2.1 e) (fun e => by rcases e with e | e; exact ha.2.2.1 e; exact ha.2.2.2.1 e), H.wq, H.wr⟩
theorem DD.doc {w W W' : World} {p g h q r : Nat} {l l' l2 : BL} (H : DD w W p g h q r l l') (h2 : RBAt W' q r l2) (ho : GrownS W W' (fun k => k = r)) : DD w W' p g h q r l l2 := by
  have ha := H.apart
  exact ⟨⟨H.held.1.grownS ho (fun e => ha.2.2.2.2 e.symm) (fun e => ha.2.2.1 e.symm) (fun e => ha.2.2.2.1 e.symm), H.held.2.1.trans (ho.below H.held.2.1.size (fun k e => by rw [e]; exact H.wr)), H.held.2.2⟩, h2, H.wq, H.wr⟩
theorem DD.below {w W W' : World} {p g h q r : Nat} {l l' : BL} (H : DD w W p g h q r l l') (hb : Below W.heap.size W W') : DD w W' p g h q r l l' :=
  ⟨H.held.below hb, H.ref.below hb, H.wq, H.wr⟩
def opC (o : Op11) : Array Value := #[.int .i64 o.ask, .int .i64 o.b, .int .i64 o.at', .int .i64 o.n, .string (BA o.data)]
/-- The call that is played lies at b. -/
def OB (W : World) (b : Nat) (o : Op11) : Prop := Blk W b 32 (opC o)
theorem OB.cells {W : World} {b : Nat} {o : Op11} (H : OB W b o) : W.cell? ⟨b, 0, none⟩ = some (.int .i64 o.ask) ∧ W.cell? ⟨b, 1, none⟩ = some (.int .i64 o.b) ∧ W.cell? ⟨b, 2, none⟩ = some (.int .i64 o.at') ∧ W.cell? ⟨b, 3, none⟩ = some (.int .i64 o.n) ∧ W.cell? ⟨b, 4, none⟩ = some (.string (BA o.data)) :=
  ⟨Blk.cell H 0 rfl, Blk.cell H 1 rfl, Blk.cell H 2 rfl, Blk.cell H 3 rfl, Blk.cell H 4 rfl⟩
/-- Both stores and the call. -/
structure PS (w W : World) (p g h q r b : Nat) (l l' : BL) (o : Op11) : Prop where
  dd : DD w W p g h q r l l'
  ob : OB W b o
theorem PS.prog {w W W' : World} {p g h q r b : Nat} {l l' l2 : BL} {o : Op11} (H : PS w W p g h q r b l l' o) (h2 : Held w W' p g h l2) (ho : Own2 W W' g h) : PS w W' p g h q r b l2 l' o := by
  refine ⟨H.dd.prog h2 ho, Blk.grownS H.ob ho ?_⟩
  obtain ⟨_, c, d, cs, ds, k1, k2, k3, _⟩ := H.dd.held.1
  intro e
  rcases e with e | e
  · exact blk_ne H.ob k2 (by decide) e
  · exact blk_ne H.ob k3 (by decide) e
theorem PS.doc {w W W' : World} {p g h q r b : Nat} {l l' l2 : BL} {o : Op11} (H : PS w W p g h q r b l l' o) (h2 : RBAt W' q r l2) (ho : GrownS W W' (fun k => k = r)) : PS w W' p g h q r b l l2 o := by
  refine ⟨H.dd.doc h2 ho, Blk.grownS H.ob ho ?_⟩
  obtain ⟨_, c', cs', j1, j2, _⟩ := H.dd.ref
  exact fun e => blk_ne H.ob j2 (by decide) e
theorem PS.below {w W W' : World} {p g h q r b : Nat} {l l' : BL} {o : Op11} (H : PS w W p g h q r b l l' o) (hb : Below W.heap.size W W') : PS w W' p g h q r b l l' o :=
  ⟨H.dd.below hb, Blk.below H.ob hb (Blk.lt H.ob)⟩
theorem PS.take {w W : World} {p g h q r b : Nat} {l l' : BL} {o : Op11} (H : PS w W p g h q r b l l' o) : Calls Try.prog 11 #[.pointer (some ⟨p, 0, none⟩)] W fun e w' => e = .returned (.tuple #[.int .i64 (takeN l), .int .i64 (takeE l)]) ∧ PS w w' p g h q r b (takeL l) l' o :=
  (take_held H.dd.held rfl rfl rfl).mono fun _ _ ⟨h1, h2, h3⟩ => ⟨h1, H.prog h2 h3⟩
theorem PS.rtake {w W : World} {p g h q r b : Nat} {l l' : BL} {o : Op11} (H : PS w W p g h q r b l l' o) : Calls Try.prog 12 #[.pointer (some ⟨q, 0, none⟩)] W fun e w' => e = .returned (.tuple #[.int .i64 (takeN l'), .int .i64 (takeE l')]) ∧ PS w w' p g h q r b l (takeL l') o :=
  (rtake_any W q r l' H.dd.ref).mono fun _ _ ⟨h1, h2, h3⟩ => ⟨h1, H.doc h2 h3⟩
theorem PS.give {w W : World} {p g h q r b : Nat} {l l' : BL} {o : Op11} (H : PS w W p g h q r b l l' o) (x : Int) (hx : I64 x) : Calls Try.prog 13 #[.pointer (some ⟨p, 0, none⟩), .int .i64 x] W fun e w' => e = .returned (.int .i64 (giveE l x)) ∧ PS w w' p g h q r b (giveL l x) l' o :=
  (give_held H.dd.held x hx rfl rfl).mono fun _ _ ⟨h1, h2, h3⟩ => ⟨h1, H.prog h2 h3⟩
theorem PS.rgive {w W : World} {p g h q r b : Nat} {l l' : BL} {o : Op11} (H : PS w W p g h q r b l l' o) (x : Int) (hx : I64 x) : Calls Try.prog 14 #[.pointer (some ⟨q, 0, none⟩), .int .i64 x] W fun e w' => e = .returned (.int .i64 (giveE l' x)) ∧ PS w w' p g h q r b l (giveL l' x) o :=
  (rgive_any W q r l' x H.dd.ref hx).mono fun _ _ ⟨h1, h2, h3⟩ => ⟨h1, H.doc h2 h3⟩
theorem PS.write {w W : World} {p g h q r b : Nat} {l l' : BL} {o : Op11} (H : PS w W p g h q r b l l' o) (x a : Int) (d : List UInt8) (hx : I64 x) (ha : I64 a) : Calls Try.prog 17 #[.pointer (some ⟨p, 0, none⟩), .int .i64 x, .int .i64 a, .string (BA d)] W fun e w' => e = .returned (.int .i64 (writeE l x a d)) ∧ PS w w' p g h q r b (writeL l x a d) l' o :=
  (write_held H.dd.held x a d hx ha rfl rfl).mono fun _ _ ⟨h1, h2, h3⟩ => ⟨h1, H.prog h2 h3⟩
theorem PS.rwrite {w W : World} {p g h q r b : Nat} {l l' : BL} {o : Op11} (H : PS w W p g h q r b l l' o) (x a : Int) (d : List UInt8) (hx : I64 x) (ha : I64 a) : Calls Try.prog 18 #[.pointer (some ⟨q, 0, none⟩), .int .i64 x, .int .i64 a, .string (BA d)] W fun e w' => e = .returned (.int .i64 (writeE l' x a d)) ∧ PS w w' p g h q r b l (writeL l' x a d) o :=
  (rwrite_any W q r l' x a d H.dd.ref hx ha).mono fun _ _ ⟨h1, h2, h3⟩ => ⟨h1, H.doc h2 h3⟩
theorem PS.read {w W : World} {p g h q r b : Nat} {l l' : BL} {o : Op11} (H : PS w W p g h q r b l l' o) (x a n : Int) (hx : I64 x) (ha : I64 a) : Calls Try.prog 15 #[.pointer (some ⟨p, 0, none⟩), .int .i64 x, .int .i64 a, .int .i64 n] W fun e w' => e = .returned (.tuple #[.string (BA (readT l x a n)), .int .i64 (readE l x a n)]) ∧ w' = W :=
  read_any W p g h l x a n H.dd.held.1 hx ha
theorem PS.rread {w W : World} {p g h q r b : Nat} {l l' : BL} {o : Op11} (H : PS w W p g h q r b l l' o) (x a n : Int) (hx : I64 x) (ha : I64 a) : Calls Try.prog 16 #[.pointer (some ⟨q, 0, none⟩), .int .i64 x, .int .i64 a, .int .i64 n] W fun e w' => e = .returned (.tuple #[.string (BA (readT l' x a n)), .int .i64 (readE l' x a n)]) ∧ w' = W :=
  rread_any W q r l' x a n H.dd.ref hx ha
/-- The elder store at p, of which the one at p' is a copy. -/
structure EL (w W : World) (p g h p' g' h' q r b : Nat) (le l l' : BL) (o : Op11) : Prop where
  ps : PS w W p g h q r b le l' o
  new : BAt W p' g' h' l
  ges : w.heap.size ≤ p' ∧ w.heap.size ≤ g' ∧ w.heap.size ≤ h'
  far : (p' ≠ g ∧ p' ≠ h) ∧ (g' ≠ g ∧ g' ≠ h) ∧ (h' ≠ g ∧ h' ≠ h)
theorem EL.prog {w W W' : World} {p g h p' g' h' q r b : Nat} {le l l' l2 : BL} {o : Op11} (H : EL w W p g h p' g' h' q r b le l l' o) (h2 : Held w W' p g h l2) (ho : Own2 W W' g h) : EL w W' p g h p' g' h' q r b l2 l l' o :=
  ⟨H.ps.prog h2 ho, H.new.grownS ho (fun e => by rcases e with e | e; exact H.far.1.1 e; exact H.far.1.2 e) (fun e => by rcases e with e | e; exact H.far.2.1.1 e; exact H.far.2.1.2 e) (fun e => by rcases e with e | e; exact H.far.2.2.1 e; exact H.far.2.2.2 e), H.ges, H.far⟩
theorem EL.done {w W : World} {p g h p' g' h' q r b : Nat} {le l l' : BL} {o : Op11} (H : EL w W p g h p' g' h' q r b le l l' o) : PS w W p' g' h' q r b l l' o :=
  ⟨⟨⟨H.new, H.ps.dd.held.2.1, H.ges⟩, H.ps.dd.ref, H.ps.dd.wq, H.ps.dd.wr⟩, H.ps.ob⟩
theorem PS.copy {w W : World} {p g h q r b : Nat} {l l' : BL} {o : Op11} (H : PS w W p g h q r b l l' o) : Calls Try.prog 19 #[.pointer (some ⟨p, 0, none⟩)] W fun e w' => ∃ p' g' h', e = .returned (.pointer (some ⟨p', 0, none⟩)) ∧ EL w w' p g h p' g' h' q r b l l l' o :=
  (copy_any W p g h l H.dd.held.1).mono fun e w' ⟨p', g', h', h1, h2, h3, h4, h5, h6⟩ => by
    have hl := H.dd.held.1.lt
    have hs := H.dd.held.2.1.size
    exact ⟨p', g', h', h1, H.below h3, h2, ⟨by omega, by omega, by omega⟩, ⟨by omega, by omega⟩, ⟨by omega, by omega⟩, ⟨by omega, by omega⟩⟩
theorem EL.rcopy {w W : World} {p g h p' g' h' q r b : Nat} {le l l' : BL} {o : Op11} (H : EL w W p g h p' g' h' q r b le l l' o) : Calls Try.prog 20 #[.pointer (some ⟨q, 0, none⟩)] W fun e w' => ∃ q' r', e = .returned (.pointer (some ⟨q', 0, none⟩)) ∧ EL w w' p g h p' g' h' q' r' b le l l' o :=
  (rcopy_any W q r l' H.ps.dd.ref).mono fun e w' ⟨q', r', h1, h2, h3, h4, h5⟩ => by
    have hs := H.ps.dd.held.2.1.size
    have hp := H.ps.below h3
    exact ⟨q', r', h1, ⟨⟨hp.dd.held, h2, by omega, by omega⟩, hp.ob⟩, H.new.below h3, H.ges, H.far⟩
theorem EL.take {w W : World} {p g h p' g' h' q r b : Nat} {le l l' : BL} {o : Op11} (H : EL w W p g h p' g' h' q r b le l l' o) : Calls Try.prog 11 #[.pointer (some ⟨p, 0, none⟩)] W fun e w' => (∃ x y, e = .returned (.tuple #[.int .i64 x, .int .i64 y])) ∧ EL w w' p g h p' g' h' q r b (takeL le) l l' o :=
  (take_held H.ps.dd.held rfl rfl rfl).mono fun _ _ ⟨h1, h2, h3⟩ => ⟨⟨_, _, h1⟩, H.prog h2 h3⟩
theorem EL.write {w W : World} {p g h p' g' h' q r b : Nat} {le l l' : BL} {o : Op11} (H : EL w W p g h p' g' h' q r b le l l' o) (x a : Int) (d : List UInt8) (hx : I64 x) (ha : I64 a) : Calls Try.prog 17 #[.pointer (some ⟨p, 0, none⟩), .int .i64 x, .int .i64 a, .string (BA d)] W fun e w' => (∃ y, e = .returned (.int .i64 y)) ∧ PS w w' p' g' h' q r b l l' o :=
  (write_held H.ps.dd.held x a d hx ha rfl rfl).mono fun _ _ ⟨h1, h2, h3⟩ => ⟨⟨_, h1⟩, (H.prog h2 h3).done⟩

end Go.Proofs.Ytfolnccpnncmiaa

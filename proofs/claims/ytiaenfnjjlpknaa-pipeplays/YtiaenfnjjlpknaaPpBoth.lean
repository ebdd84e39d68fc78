/-
  Both pipes beside one another, and the call that is played.
-/
import Derived.Test.YtiaenfnjjlpknaaPpRef2
namespace Go.Proofs.Ytiaenfnjjlpknaa
open Go.RowKit

/-- In W the program's pipe at p has x, the document's at q has x', the call lies at b. -/
structure PS (w W : World) (p q b : Nat) (x x' : Pp) (o : Op15) : Prop where
  hp : Hp w W p x
  ref : RAt W q x'
  wq : w.heap.size ≤ q
  fit : Fit x'
  ob : OB W b o
theorem PS.ne {w W : World} {p q b : Nat} {x x' : Pp} {o : Op15} (H : PS w W p q b x x' o) : q ≠ p ∧ b ≠ p ∧ b ≠ q := by
  obtain ⟨_, f, cs, h⟩ := H.hp.at'
  exact ⟨blk_ne H.ref h.blk (by decide), blk_ne H.ob h.blk (by decide), blk_ne H.ob H.ref (by decide)⟩
theorem PS.prog {w W W' : World} {p q b : Nat} {x x' y : Pp} {o : Op15} (H : PS w W p q b x x' o) (h : PAt W' p y) (hg : GrownS W W' (fun k => k = p)) : PS w W' p q b y x' o :=
  ⟨H.hp.turn h hg, Blk.grownS H.ref hg H.ne.1, H.wq, H.fit, Blk.grownS H.ob hg H.ne.2.1⟩
theorem PS.doc {w W W' : World} {p q b : Nat} {x x' y : Pp} {o : Op15} (H : PS w W p q b x x' o) (h : RAt W' q y) (hf : Fit y) (hg : GrownS W W' (fun k => k = q)) : PS w W' p q b x y o :=
  ⟨⟨H.hp.at'.grownS hg (fun e => H.ne.1 e.symm), H.hp.bel.trans (hg.below H.hp.bel.size (fun k e => by rw [e]; exact H.wq)), H.hp.new⟩, h, H.wq, hf, Blk.grownS H.ob hg H.ne.2.2⟩
theorem PS.below {w W W' : World} {p q b : Nat} {x x' : Pp} {o : Op15} (H : PS w W p q b x x' o) (hb : Below W.heap.size W W') : PS w W' p q b x x' o :=
  ⟨H.hp.below hb, Blk.below H.ref hb (Blk.lt H.ref), H.wq, H.fit, Blk.below H.ob hb (Blk.lt H.ob)⟩
variable {w W : World} {p q b : Nat} {x x' : Pp} {o : Op15}
theorem PS.read (H : PS w W p q b x x' o) (n : Int) : Calls Try.prog 10 #[.pointer (some ⟨p, 0, none⟩), .int .i64 n] W fun e w' => e = .returned (.tuple #[.string (BA (rdT x n)), .int .i64 (rdE x n)]) ∧ PS w w' p q b (rdS x n) x' o :=
  (read_any H.hp.at' n).mono fun _ _ ⟨h1, h2, h3⟩ => ⟨h1, H.prog h2 h3⟩
theorem PS.rread (H : PS w W p q b x x' o) (n : Int) : Calls Try.prog 11 #[.pointer (some ⟨q, 0, none⟩), .int .i64 n] W fun e w' => e = .returned (.tuple #[.string (BA (rdT x' n)), .int .i64 (rdE x' n)]) ∧ PS w w' p q b x (rdS x' n) o :=
  (rread_any H.ref n).mono fun _ _ ⟨h1, h2, h3⟩ => ⟨h1, H.doc h2 (H.fit.rd n) h3⟩
theorem PS.write (H : PS w W p q b x x' o) (d : List UInt8) : Calls Try.prog 12 #[.pointer (some ⟨p, 0, none⟩), .string (BA d)] W fun e w' => e = .returned (.tuple #[.int .i64 (wrN x d : Int), .int .i64 (wrE x d)]) ∧ PS w w' p q b (wrS x d) x' o :=
  (write_any H.hp.at' d).mono fun _ _ ⟨h1, h2, h3⟩ => ⟨h1, H.prog h2 h3⟩
theorem PS.rwrite (H : PS w W p q b x x' o) (d : List UInt8) : Calls Try.prog 13 #[.pointer (some ⟨q, 0, none⟩), .string (BA d)] W fun e w' => e = .returned (.tuple #[.int .i64 (wrN x' d : Int), .int .i64 (wrE x' d)]) ∧ PS w w' p q b x (wrS x' d) o :=
  (rwrite_any H.ref H.fit d).mono fun _ _ ⟨h1, h2, h3⟩ => ⟨h1, H.doc h2 (H.fit.wr d) h3⟩
theorem PS.join (H : PS w W p q b x x' o) (c : Bool) (h1 : x.r < 1000000) (h2 : x.t < 1000000) : Calls Try.prog 15 #[.pointer (some ⟨p, 0, none⟩), .bool c] W fun e w' => e = .returned (.int .i64 0) ∧ PS w w' p q b (joS x c) x' o :=
  (join_any H.hp.at' c h1 h2).mono fun _ _ ⟨h1, h2, h3⟩ => ⟨h1, H.prog h2 h3⟩
theorem PS.rjoin (H : PS w W p q b x x' o) (c : Bool) (h1 : x'.r < 1000000) (h2 : x'.t < 1000000) : Calls Try.prog 14 #[.pointer (some ⟨q, 0, none⟩), .bool c] W fun e w' => e = .returned (.tuple #[]) ∧ PS w w' p q b x (joS x' c) o :=
  (rjoin_any H.ref c h1 h2).mono fun _ _ ⟨h3, h4, h5⟩ => ⟨h3, H.doc h4 (H.fit.jo c h1 h2) h5⟩
theorem PS.leave (H : PS w W p q b x x' o) (c : Bool) : Calls Try.prog 16 #[.pointer (some ⟨p, 0, none⟩), .bool c] W fun e w' => e = .returned (.int .i64 (leE x c)) ∧ PS w w' p q b (leS x c) x' o :=
  (leave_any H.hp.at' c).mono fun _ _ ⟨h1, h2, h3⟩ => ⟨h1, H.prog h2 h3⟩
theorem PS.rleave (H : PS w W p q b x x' o) (c : Bool) : Calls Try.prog 17 #[.pointer (some ⟨q, 0, none⟩), .bool c] W fun e w' => e = .returned (.int .i64 (leE x' c)) ∧ PS w w' p q b x (leS x' c) o :=
  (rleave_any H.ref H.fit c).mono fun _ _ ⟨h1, h2, h3⟩ => ⟨h1, H.doc h2 (H.fit.le c) h3⟩
theorem PS.users (H : PS w W p q b x x' o) : Calls Try.prog 18 #[.pointer (some ⟨p, 0, none⟩)] W fun e w' => e = .returned (.tuple #[.int .i64 (x.r : Int), .int .i64 (x.t : Int)]) ∧ PS w w' p q b x x' o :=
  (users_any H.hp.at').mono fun _ _ ⟨h1, h2⟩ => ⟨h1, H.below h2⟩
theorem PS.len (H : PS w W p q b x x' o) : Calls Try.prog 19 #[.pointer (some ⟨p, 0, none⟩)] W fun e w' => e = .returned (.int .i64 (x.s.length : Int)) ∧ w' = W := len_any H.hp.at'
theorem rd_rt (x : Pp) (n : Int) : (rdS x n).r = x.r ∧ (rdS x n).t = x.t := by
  unfold rdS
  split <;> exact ⟨rfl, rfl⟩
theorem wr_rt (x : Pp) (d : List UInt8) : (wrS x d).r = x.r ∧ (wrS x d).t = x.t := by
  unfold wrS
  split <;> exact ⟨rfl, rfl⟩
theorem jo_rt (x : Pp) (c : Bool) : (joS x c).r ≤ x.r + 1 ∧ (joS x c).t ≤ x.t + 1 := by
  cases c
  · exact ⟨Nat.le_refl _, Nat.le_succ _⟩
  · exact ⟨Nat.le_succ _, Nat.le_refl _⟩
theorem le_rt (x : Pp) (c : Bool) : (leS x c).r ≤ x.r ∧ (leS x c).t ≤ x.t := by
  cases c
  · exact ⟨Nat.sub_le _ _, Nat.le_refl _⟩
  · exact ⟨Nat.le_refl _, Nat.sub_le _ _⟩

end Go.Proofs.Ytiaenfnjjlpknaa

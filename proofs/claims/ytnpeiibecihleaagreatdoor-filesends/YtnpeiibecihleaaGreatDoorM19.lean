/-
  Directories (stage 13): what Rename leaves.
  Directories (stage 13): Rename.
  Directories (stage 13): Rename's last part: what is there when the other name is gone.
-/
import Derived.Test.YtnpeiibecihleaaGreatDoorM18
/- Directories (stage 13): what Rename leaves. -/
namespace Go.Proofs.YtnpeiibecihleaaGreatDoor
open Go.RowKit Go.Maps

theorem tie_unt {T : TB} {i : Int} (h : 1 ≤ nmI T i) : untT (tieT T i) i = T := by
  unfold nmI at h
  cases hx : ndAt T i with
  | none => rw [hx] at h; exact absurd h (by simp [namesOf])
  | some x =>
    rw [hx] at h
    have h : 1 ≤ x.names := h
    obtain ⟨k, rfl, hk, hl⟩ := ndAt_some hx
    have e1 : tieT T ((k : Int) + 1) = T.set k (some (tieN x)) := by unfold tieT; rw [hx]; dsimp only; rw [plc_of]
    have e2 : ndAt (T.set k (some (tieN x))) ((k : Int) + 1) = some (tieN x) := by rw [ndAt_set hl, if_pos rfl]
    rw [e1]
    unfold untT
    rw [e2]
    dsimp only
    have e3 : untN (tieN x) = x := rfl
    rw [if_neg (by show ¬ x.names + 1 = 0; omega), plc_of, e3]
    unfold leftN
    rw [if_neg (fun hh => by omega), List.set_set]
    have : T = T.set k (some x) := by
      apply List.ext_getElem?
      intro j
      rw [List.getElem?_set]
      split
      · rename_i e; subst e; first | exact hk | rw [if_pos hl, hk]
      · rfl
    exact this.symm
theorem srt_ext : ∀ {A B : List Nm}, Srt A → Srt B → (∀ x, x ∈ A ↔ x ∈ B) → A = B
  | [], [], _, _, _ => rfl
  | [], b :: B, _, _, h => by have := (h b).2 List.mem_cons_self; cases this
  | a :: A, [], _, _, h => by have := (h a).1 List.mem_cons_self; cases this
  | a :: A, b :: B, hA, hB, h => by
    obtain ⟨a1, a2⟩ := List.pairwise_cons.1 hA
    obtain ⟨b1, b2⟩ := List.pairwise_cons.1 hB
    have e : a = b := by
      rcases List.mem_cons.1 ((h a).1 List.mem_cons_self) with e | e
      · exact e
      · rcases List.mem_cons.1 ((h b).2 List.mem_cons_self) with e2 | e2
        · exact e2.symm
        · have h1 := ltM_trans (b1 a e) (a1 b e2)
          rw [ltM_irr] at h1
          cases h1
    subst e
    congr 1
    refine srt_ext a2 b2 (fun x => ?_)
    constructor
    · intro hx
      rcases List.mem_cons.1 ((h x).1 (List.mem_cons_of_mem _ hx)) with e | e
      · subst e
        have := a1 x hx
        rw [ltM_irr] at this
        cases this
      · exact e
    · intro hx
      rcases List.mem_cons.1 ((h x).2 (List.mem_cons_of_mem _ hx)) with e | e
      · subst e
        have := b1 x hx
        rw [ltM_irr] at this
        cases this
      · exact e
/-- A name is put, and another one dropped: in either order. -/
theorem put_drop {L : List Nm} (h : Srt L) {x : Nm} {d : Int} {n : List UInt8} (hno : ∀ y ∈ L, ¬ (y.dir = x.dir ∧ y.name = x.name)) (hne : ¬ (x.dir = d ∧ x.name = n)) : dropL (putL L x) d n = putL (dropL L d n) x := by
  refine srt_ext ((h.put hno).drop d n) ((h.drop d n).put (fun y hy => hno y (mem_drop.1 hy).1)) (fun y => ?_)
  rw [mem_drop, mem_put, mem_put, mem_drop]
  constructor
  · rintro ⟨h1 | h1, h2⟩
    · exact .inl h1
    · exact .inr ⟨h1, h2⟩
  · rintro (h1 | ⟨h1, h2⟩)
    · exact ⟨.inl h1, by rw [h1]; exact hne⟩
    · exact ⟨.inr h1, h2⟩
theorem drop_len1 {L : List Nm} (h : Srt L) {x : Nm} (hx : x ∈ L) : (dropL L x.dir x.name).length + 1 = L.length := by
  have := count_drop h hx (fun _ => true)
  simp at this
  omega
theorem ok_ren {s : NS} {n : Nat} (K : NOk s n) {dir : Int} {p q : List UInt8} : NOk (renS s (placeN s dir p) (placeN s dir q) (findN s (placeN s dir p).1 (placeN s dir p).2.1) (findN s (placeN s dir q).1 (placeN s dir q).2.1)) n := by
  have hi := keep_ren K.inv (dir := dir) (p := p) (q := q)
  generalize hA : placeN s dir p = A at hi ⊢
  generalize hB : placeN s dir q = B at hi ⊢
  have key : ∀ s1 : NS, NOk s1 n → ∀ x ∈ s1.L, x.dir = A.1 → x.name = A.2.1 → B.2.2 = 0 → kdI s1.T B.1 = 2 → ∀ i, (renT s1 A B i).T.length ≤ 1024 ∧ TGood (renT s1 A B i).T n ∧ (∀ y ∈ (renT s1 A B i).L, NmOk y.name) ∧ (renT s1 A B i).L.length ≤ n ∧ (∀ k, 0 ≤ (renT s1 A B i).par k ∧ (renT s1 A B i).par k ≤ 1024) ∧ UpOk (renT s1 A B i) := by
    intro s1 K1 x hx e1 e2 hb hbd i
    refine ⟨K1.max, K1.gd, fun y hy => ?_, ?_, fun k => ?_, fun c hc => ?_⟩
    · rcases mem_put.1 hy with rfl | hy
      · show NmOk B.2.1
        rw [← hB] at hb ⊢
        exact place_nm hb
      · exact K1.nm y (mem_drop.1 hy).1
    · show (putL (dropL s1.L A.1 A.2.1) _).length ≤ n
      rw [put_len']
      have := drop_len1 K1.inv.srt hx
      rw [e1, e2] at this
      rw [this]
      exact K1.len
    · show 0 ≤ parU _ _ _ k ∧ parU _ _ _ k ≤ 1024
      unfold parU
      split
      · rw [← hB] at hb ⊢
        have := place_rng K hb
        omega
      · exact K1.par k
    · have hc : kdI s1.T c = 2 := hc
      show parU s1.par i B.1 c = 0 ∨ kdI s1.T (parU s1.par i B.1 c) = 2
      unfold parU
      split
      · exact .inr hbd
      · exact K1.up c hc
  have hbd : B.2.2 = 0 → kdI s.T B.1 = 2 := fun h => by rw [← hB] at h ⊢; exact place_dir h
  unfold renS at hi ⊢
  by_cases h : renE s A B (findN s A.1 A.2.1) (findN s B.1 B.2.1) = 0 ∧ findN s A.1 A.2.1 ≠ findN s B.1 B.2.1
  · rw [if_pos h] at hi ⊢
    obtain ⟨h1, h2, h3, h4, h5, h6⟩ := ren_ok h.1 h.2
    obtain ⟨x, hx, e1, e2, e3⟩ := find_some h3
    by_cases hk : 0 < findN s B.1 B.2.1
    · rw [if_pos hk] at hi ⊢
      have hk0 : findN s B.1 B.2.1 ≠ 0 := by omega
      have K1 : NOk (goneS s B.1 B.2.1) n := ok_gone K hk0 (fun _ => h6 hk)
      obtain ⟨y, hy, f1, f2, f3⟩ := find_some hk0
      have hx1 : x ∈ (goneS s B.1 B.2.1).L := mem_drop.2 ⟨hx, fun e => h.2 (by
        have : x = y := K.inv.srt.key hx hy (e.1.trans f1.symm) (e.2.trans f2.symm)
        rw [← e3, ← f3, this])⟩
      have hne : B.1 ≠ findN s B.1 B.2.1 := fun e => by
        obtain ⟨rk, hr⟩ := K.inv.rank
        have := hr y hy (by rw [f3, ← e]; exact hbd h2)
        rw [f1, f3, ← e] at this
        omega
      obtain ⟨a1, a2, a3, a4, a5, a6⟩ := key _ K1 x hx1 e1 e2 h2 (((unt_kd s.T _ B.1).1 hne).trans (hbd h2)) (findN s A.1 A.2.1)
      exact ⟨hi, a2, a1, a3, a4, a5, a6⟩
    · rw [if_neg hk] at hi ⊢
      obtain ⟨a1, a2, a3, a4, a5, a6⟩ := key _ K x hx e1 e2 h2 (hbd h2) (findN s A.1 A.2.1)
      exact ⟨hi, a2, a1, a3, a4, a5, a6⟩
  · rw [if_neg h]
    exact K
/-- The end of Rename, in memory: s1 is what is left when the other name is gone. -/
theorem ren_mem {w' : World} {q nb : Nat} {Y : Nat → Prop} {s1 : NS} {A B : Int × List UInt8 × Int} {i : Int} (hn : 1 ≤ nmI s1.T i) (hU : UpOk s1) (hi0 : i ≠ 0) (hs : Srt s1.L) (hno : ∀ y ∈ s1.L, ¬ (y.dir = B.1 ∧ y.name = B.2.1)) (hne : ¬ (B.1 = A.1 ∧ B.2.1 = A.2.1)) :
    (kdI s1.T i ≠ 2 → GAt w' q Y (untT (tieT s1.T i) i) (dropL (putL s1.L ⟨B.1, B.2.1, i⟩) A.1 A.2.1) (forgP (untT (tieT s1.T i) i) i s1.par) (keepD (untT (tieT s1.T i) i) i (fun d => kdI s1.T d = 2)) nb → NdAt w' q Y (renT s1 A B i) nb) ∧
    (kdI s1.T i = 2 → GAt w' q Y (untT (tieT s1.T i) i) (dropL (putL s1.L ⟨B.1, B.2.1, i⟩) A.1 A.2.1) (parU (forgP (untT (tieT s1.T i) i) i s1.par) i B.1) (keepD (untT (tieT s1.T i) i) i (fun d => kdI s1.T d = 2)) nb → NdAt w' q Y (renT s1 A B i) nb) := by
  rw [tie_unt hn, put_drop (x := ⟨B.1, B.2.1, i⟩) hs hno hne]
  have hD : ∀ d, keepD s1.T i (fun d => kdI s1.T d = 2) d ↔ kdI s1.T d = 2 := fun d => ⟨fun h => h.1, fun h => ⟨h, fun h0 e => h0 (by rw [← e]; exact h)⟩⟩
  refine ⟨fun hk hg => ?_, fun hk hg => ?_⟩
  · refine GAt.toN (hg.par (fun d hd => ?_)) hD
    have h1 : kdI s1.T d = 2 := hd.1
    show parU s1.par i B.1 d = forgP s1.T i s1.par d
    unfold parU forgP
    rw [if_neg (fun e => hk (by rw [← e]; exact h1)), if_neg (fun e => up_no hU h1 hk hi0 e.2)]
  · refine GAt.toN (hg.par (fun d _ => ?_)) hD
    show parU s1.par i B.1 d = parU (forgP s1.T i s1.par) i B.1 d
    unfold parU forgP
    split
    · rfl
    · rw [if_neg (fun e => e.1 hk)]
/-- What Rename answers, in the program's order. -/
theorem ren_is {s : NS} {n : Nat} (K : NOk s n) {A B : Int × List UInt8 × Int} (i k : Int) (h1 : A.2.2 = 0) (h2 : B.2.2 = 0) (h3 : i ≠ 0) (h4 : nmI s.T B.1 ≠ 0) : renE s A B i k = if i = k then 0 else if isD s i = true ∧ belP s B.1 i = true then 35 else if 0 < k then overE s i k else 0 := by
  unfold renE
  rw [if_neg (by rw [h1]; decide), if_neg (by rw [h2]; decide), if_neg (by rintro (h | h); exact h3 h; exact h4 h)]
  by_cases h5 : i = k
  · rw [if_pos h5, if_pos h5]
  · rw [if_neg h5, if_neg h5]
    by_cases h6 : isD s i = true ∧ belP s B.1 i = true
    · rw [if_pos h6, if_pos h6]
    · rw [if_neg h6, if_neg h6]
      by_cases h7 : 0 < k
      · rw [if_pos h7, if_pos h7]
        unfold overE
        split
        · rfl
        · split
          · rfl
          · rename_i g1 g2
            cases hi : isD s i with
            | true =>
              rw [hi] at g1 g2
              by_cases hin : inN s k = []
              · rw [if_neg (fun h => h hin), hin]; simp
              · rw [if_pos hin]
                cases hl : inN s k with
                | nil => exact absurd hl hin
                | cons => simp
            | false =>
              rw [hi] at g1 g2
              have hk : isD s k = false := by
                cases hkk : isD s k with
                | false => rfl
                | true => exact absurd ⟨rfl, hkk⟩ g2
              have hin : inN s k = [] := in_no K.inv (fun e => by have : isD s k = true := decide_eq_true e; rw [hk] at this; cases this)
              rw [if_neg (fun h => h hin)]
              simp
      · rw [if_neg h7, if_neg h7]

end Go.Proofs.YtnpeiibecihleaaGreatDoor

/- Directories (stage 13): Rename. -/
namespace Go.Proofs.YtnpeiibecihleaaGreatDoor
open Go.RowKit Go.Maps

/-- While Rename goes: the tree, and both places. -/
structure Rn (w W : World) (f q : Nat) (Y Z : Nat → Prop) (s : NS) (nb n : Nat) (B : Bas) (ob ab : Nat) (N1 : Int) (t1 : List UInt8) (N2 : Int) (t2 : List UInt8) : Prop where
  fx : FX W f q Z s nb n B
  o : Blk W ob 109 #[.int .i64 N1, .string (BA t1)]
  a : Blk W ab 109 #[.int .i64 N2, .string (BA t2)]
  zo : ¬ Z ob
  za : ¬ Z ab
  zy : ∀ k, Z k → Y k
  gr : GrownS w W Y
def Cs (w' : World) (f q ob ab : Nat) (N1 : Int) (t1 : List UInt8) (N2 : Int) (t2 : List UInt8) : Prop := (w'.cell? ⟨f, 0, none⟩ = some (.pointer (some ⟨q, 0, none⟩)) ∧ w'.cell? ⟨ob, 0, none⟩ = some (.int .i64 N1) ∧ w'.cell? ⟨ob, 1, none⟩ = some (.string (BA t1)) ∧ w'.cell? ⟨ab, 0, none⟩ = some (.int .i64 N2) ∧ w'.cell? ⟨ab, 1, none⟩ = some (.string (BA t2)))
structure Gn (w W : World) (f q : Nat) (Y Z : Nat → Prop) (T : TB) (L : List Nm) (par : Int → Int) (D : Int → Prop) (nb ob ab : Nat) (N1 : Int) (t1 : List UInt8) (N2 : Int) (t2 : List UInt8) : Prop where
  at' : GAt W q Z T L par D nb
  blk : Blk W f 76 #[.pointer (some ⟨q, 0, none⟩)]
  nf : ¬ Z f
  new : ∀ k, W.heap.size ≤ k → Z k
  o : Blk W ob 109 #[.int .i64 N1, .string (BA t1)]
  a : Blk W ab 109 #[.int .i64 N2, .string (BA t2)]
  zo : ¬ Z ob
  za : ¬ Z ab
  zy : ∀ k, Z k → Y k
  gr : GrownS w W Y
theorem Rn.below {w W : World} {f q : Nat} {Y Z : Nat → Prop} {s : NS} {nb n : Nat} {B : Bas} {ob ab : Nat} {N1 : Int} {t1 : List UInt8} {N2 : Int} {t2 : List UInt8} {W' : World} (H : Rn w W f q Y Z s nb n B ob ab N1 t1 N2 t2) (hb : Below W.heap.size W W') : Rn w W' f q Y Z s nb n B ob ab N1 t1 N2 t2 := ⟨H.fx.below hb, H.o.below hb H.o.lt, H.a.below hb H.a.lt, H.zo, H.za, H.zy, H.gr.trans (grownS_of_below hb)⟩
theorem Rn.cs {w W : World} {f q : Nat} {Y Z : Nat → Prop} {s : NS} {nb n : Nat} {B : Bas} {ob ab : Nat} {N1 : Int} {t1 : List UInt8} {N2 : Int} {t2 : List UInt8} (H : Rn w W f q Y Z s nb n B ob ab N1 t1 N2 t2) : Cs W f q ob ab N1 t1 N2 t2 := ⟨H.fx.blk.cell 0 rfl, H.o.cell 0 rfl, H.o.cell 1 rfl, H.a.cell 0 rfl, H.a.cell 1 rfl⟩
theorem Gn.cs {w W : World} {f q : Nat} {Y Z : Nat → Prop} {T : TB} {L : List Nm} {par : Int → Int} {D : Int → Prop} {nb ob ab : Nat} {N1 : Int} {t1 : List UInt8} {N2 : Int} {t2 : List UInt8} (H : Gn w W f q Y Z T L par D nb ob ab N1 t1 N2 t2) : Cs W f q ob ab N1 t1 N2 t2 := ⟨H.blk.cell 0 rfl, H.o.cell 0 rfl, H.o.cell 1 rfl, H.a.cell 0 rfl, H.a.cell 1 rfl⟩
theorem Gn.below {w W : World} {f q : Nat} {Y Z : Nat → Prop} {T : TB} {L : List Nm} {par : Int → Int} {D : Int → Prop} {nb ob ab : Nat} {N1 : Int} {t1 : List UInt8} {N2 : Int} {t2 : List UInt8} {W' : World} (H : Gn w W f q Y Z T L par D nb ob ab N1 t1 N2 t2) (hb : Below W.heap.size W W') : Gn w W' f q Y Z T L par D nb ob ab N1 t1 N2 t2 := ⟨H.at'.below hb, H.blk.below hb H.blk.lt, H.nf, fun k hk => H.new k (Nat.le_trans hb.size hk), H.o.below hb H.o.lt, H.a.below hb H.a.lt, H.zo, H.za, H.zy, H.gr.trans (grownS_of_below hb)⟩
theorem Gn.turn {w W : World} {f q : Nat} {Y Z : Nat → Prop} {T : TB} {L : List Nm} {par : Int → Int} {D : Int → Prop} {nb ob ab : Nat} {N1 : Int} {t1 : List UInt8} {N2 : Int} {t2 : List UInt8} {W' : World} {T' : TB} {L' : List Nm} {par' : Int → Int} {D' : Int → Prop} (H : Gn w W f q Y Z T L par D nb ob ab N1 t1 N2 t2) (h1 : GAt W' q Z T' L' par' D' nb) (h2 : GrownS W W' Z) : Gn w W' f q Y Z T' L' par' D' nb ob ab N1 t1 N2 t2 := ⟨h1, H.blk.grownS h2 H.nf, H.nf, fun k hk => H.new k (Nat.le_trans h2.size hk), H.o.grownS h2 H.zo, H.a.grownS h2 H.za, H.zo, H.za, H.zy, H.gr.trans (h2.mono (fun k _ h => H.zy k h))⟩
theorem Rn.toG {w W : World} {f q : Nat} {Y Z : Nat → Prop} {s : NS} {nb n : Nat} {B : Bas} {ob ab : Nat} {N1 : Int} {t1 : List UInt8} {N2 : Int} {t2 : List UInt8} (H : Rn w W f q Y Z s nb n B ob ab N1 t1 N2 t2) : Gn w W f q Y Z s.T s.L s.par (fun d => kdI s.T d = 2) nb ob ab N1 t1 N2 t2 := ⟨H.fx.nd.at'.toG H.fx.nd.ok, H.fx.blk, H.fx.no, H.fx.new, H.o, H.a, H.zo, H.za, H.zy, H.gr⟩
theorem Rn.turn {w W : World} {f q : Nat} {Y Z : Nat → Prop} {s : NS} {nb n : Nat} {B : Bas} {ob ab : Nat} {N1 : Int} {t1 : List UInt8} {N2 : Int} {t2 : List UInt8} {W' : World} {s' : NS} {n' : Nat} (H : Rn w W f q Y Z s nb n B ob ab N1 t1 N2 t2) (h1 : NdAt W' q Z s' nb) (h2 : GrownS W W' Z) (h3 : NOk s' n') : Rn w W' f q Y Z s' nb n' B ob ab N1 t1 N2 t2 := ⟨H.fx.turn h1 h2 h3, H.o.grownS h2 H.zo, H.a.grownS h2 H.za, H.zo, H.za, H.zy, H.gr.trans (h2.mono (fun k _ h => H.zy k h))⟩
/-- All that is new may turn again. -/
theorem FX.widen {w W : World} {f q nb n n' : Nat} {B : Bas} {Y Z : Nat → Prop} {s s' : NS} (H : FX w f q Y s nb n B) (h : NdAt W q Z s' nb) (hz : ∀ k, Z k → Y k) (hg : GrownS w W Y) (hk : NOk s' n') : FX W f q Y s' nb n' B := H.turn (h.mono (fun k _ hk => hz k hk)) hg hk

end Go.Proofs.YtnpeiibecihleaaGreatDoor

/- Directories (stage 13): Rename's last part: what is there when the other name is gone. -/
namespace Go.Proofs.YtnpeiibecihleaaGreatDoor
open Go.RowKit Go.Maps

/-- What the last part of Rename asks for. -/
structure RenR (s s1 : NS) (n : Nat) (N1 : Int) (t1 : List UInt8) (N2 : Int) (t2 : List UInt8) (i : Int) : Prop where
  ok : NOk s1 n
  nm : 1 ≤ nmI s1.T i
  d1 : kdI s1.T N1 = 2
  d2 : kdI s1.T N2 = 2
  no : ∀ y ∈ s1.L, ¬ (y.dir = N2 ∧ y.name = t2)
  ne : ¬ (N2 = N1 ∧ t2 = t1)
  kd : kdI s1.T i = kdI s.T i
theorem renR_free {s : NS} {n : Nat} (K : NOk s n) {N1 : Int} {t1 : List UInt8} {N2 : Int} {t2 : List UInt8} {i : Int} (hi : i = findN s N1 t1) (hi0 : i ≠ 0) (hk : findN s N2 t2 = 0) (h2 : kdI s.T N2 = 2) : RenR s s n N1 t1 N2 t2 i := by
  obtain ⟨x, hx, e1, e2, e3⟩ := find_some (by rw [← hi]; exact hi0 : findN s N1 t1 ≠ 0)
  rw [← hi] at e3
  refine ⟨K, ?_, ?_, h2, K.inv.find0 hk, ?_, rfl⟩
  · rw [← e3]; exact NV.node1 K.inv.names hx
  · rw [← e1]; exact (K.inv.dirs x hx).1
  · rintro ⟨rfl, rfl⟩
    exact hi0 (by rw [hi, hk])
theorem renR_gone {s : NS} {n : Nat} (K : NOk s n) {N1 : Int} {t1 : List UInt8} {N2 : Int} {t2 : List UInt8} {i k : Int} (hi : i = findN s N1 t1) (hi0 : i ≠ 0) (hk : k = findN s N2 t2) (hk0 : k ≠ 0) (hik : i ≠ k) (h2 : kdI s.T N2 = 2) (ho : overE s i k = 0) : RenR s (goneS s N2 t2) n N1 t1 N2 t2 i := by
  obtain ⟨x, hx, e1, e2, e3⟩ := find_some (by rw [← hi]; exact hi0 : findN s N1 t1 ≠ 0)
  obtain ⟨y, hy, f1, f2, f3⟩ := find_some (by rw [← hk]; exact hk0 : findN s N2 t2 ≠ 0)
  rw [← hi] at e3
  rw [← hk] at f3
  have hemp : kdI s.T k = 2 → inN s k = [] := fun hkd => by
    have hd : isD s k = true := decide_eq_true hkd
    unfold overE at ho
    by_cases g1 : isD s i = true ∧ isD s k = false
    · rw [hd] at g1; cases g1.2
    · rw [if_neg g1] at ho
      by_cases g2 : isD s i = false ∧ isD s k = true
      · rw [if_pos g2] at ho; cases ho
      · rw [if_neg g2] at ho
        have hii : isD s i = true := by
          cases hh : isD s i with
          | true => rfl
          | false => exact absurd ⟨hh, hd⟩ g2
        by_cases g3 : isD s i = true ∧ (!(inN s k).isEmpty) = true
        · rw [if_pos g3] at ho; cases ho
        · cases hl : inN s k with
          | nil => rfl
          | cons a l => exact absurd ⟨hii, by rw [hl]; rfl⟩ g3
  have K1 : NOk (goneS s N2 t2) n := ok_gone K (by rw [← hk]; exact hk0) (by rw [← hk]; exact hemp)
  have hx1 : x ∈ (goneS s N2 t2).L := mem_drop.2 ⟨hx, fun e => hik (by
    have : x = y := K.inv.srt.key hx hy (e.1.trans f1.symm) (e.2.trans f2.symm)
    rw [← e3, ← f3, this])⟩
  have eT : (goneS s N2 t2).T = untT s.T k := by unfold goneS; rw [← hk]
  have hne : N2 ≠ k := fun e => by
    obtain ⟨rk, hr⟩ := K.inv.rank
    have := hr y hy (by rw [f3, ← e]; exact h2)
    rw [f1, f3, e] at this
    omega
  refine ⟨K1, ?_, ?_, ?_, fun z hz => (mem_drop.1 hz).2, ?_, ?_⟩
  · rw [← e3]; exact NV.node1 K1.inv.names hx1
  · rw [← e1]; exact (K1.inv.dirs x hx1).1
  · rw [eT, (unt_kd s.T k N2).1 hne]; exact h2
  · rintro ⟨rfl, rfl⟩
    exact hik (by rw [hi, hk])
  · rw [eT, (unt_kd s.T k i).1 hik]

end Go.Proofs.YtnpeiibecihleaaGreatDoor

/-
  Directories (stage 13) in memory, while a call turns them.
  Sorted keys of maps: contracts of the shelf at this program.
-/
import Derived.Test.YtemologkibcdoaaGreatDoorM20
import Derived.Sort.KeysCollected
import Derived.Shelf.SlIter.Nil
import Derived.Shelf.SlIterI.Nil
import Derived.Shelf.SortM.Plain
import Derived.Shelf.SortM.SortNone
import Derived.Test.YtemologkibcdoaaGreatDoorM08

/- Directories (stage 13) in memory, while a call turns them. -/
namespace Go.Proofs.YtemologkibcdoaaGreatDoor
open Go.RowKit Go.Maps

/-- A map whose keys are numbers from 1 to 1024 has no more than so many. -/
theorem dirs_size {w : World} {dm : Nat} {V : DataW Value} (h : MapV w 3 dm V) (hno : ∀ d : Int, ¬ (1 ≤ d ∧ d ≤ 1024) → has V (.int .i64 d) = false) : Maps.size V ≤ 1024 := by
  obtain ⟨es, rfl, hk⟩ := World.ownsMap.keysOf h
  obtain ⟨es', e', ht⟩ := h.tidy lawI
  injection e' with e'
  subst e'
  have h1 : (es.map (·.1)).Nodup := by
    unfold List.Nodup
    rw [List.pairwise_map]
    exact ht
  have h2 : es.map (·.1) ⊆ (List.range 1024).map (fun i : Nat => Lit.int .i64 ((i : Int) + 1)) := by
    intro k hkm
    obtain ⟨p, hp, rfl⟩ := List.mem_map.1 hkm
    obtain ⟨v, hv⟩ := hk p hp
    obtain ⟨x, _, hx, _⟩ := keyOf_int_inv Tryz.underlying3 hv
    have hh : has (.map es) (.int .i64 x) = true := by
      rw [has_eq, List.any_eq_true]
      refine ⟨p, hp, ?_⟩
      rw [hx]
      simp [Lit.sameKey]
    have hr : 1 ≤ x ∧ x ≤ 1024 := by
      by_cases hr : 1 ≤ x ∧ x ≤ 1024
      · exact hr
      · rw [hno x hr] at hh
        cases hh
    rw [hx, List.mem_map]
    refine ⟨(x - 1).toNat, List.mem_range.2 (by omega), ?_⟩
    have : (((x - 1).toNat : Nat) : Int) + 1 = x := by omega
    rw [this]
  have h3 := List.Nodup.length_le_of_subset h1 h2
  rw [List.length_map, List.length_map, List.length_range] at h3
  exact h3
/-- As NdL, but that D says which directories have an entry. -/
structure NdG (w : World) (q t dm : Nat) (M : Int → Nat) (X : Nat → Prop) (T : TB) (L : List Nm) (par : Int → Int) (D : Int → Prop) (nb : Nat) : Prop where
  nds : Blk w q 72 #[.pointer (some ⟨t, 0, none⟩), .map (some dm)]
  tab : TAt w t X T nb
  lt : ∀ k, X k → k < w.heap.size
  noq : ¬ X q
  nod : ¬ X dm
  dirs : ∃ V, MapV w 3 dm V ∧ (∀ d, D d → ∀ z, V.atKey (.int .i64 d) z = .held (dirV (par d) (M d))) ∧ (∀ d, ¬ D d → has V (.int .i64 d) = false)
  each : ∀ d, D d → MapV w 9 (M d) (datN L d) ∧ ¬ X (M d) ∧ M d ≠ dm
  inj : ∀ d e, D d → D e → d ≠ e → M d ≠ M e
  rng : ∀ d, D d → 1 ≤ d ∧ d ≤ 1024
structure GIn (q dm : Nat) (M : Int → Nat) (X : Nat → Prop) (D : Int → Prop) (Y : Nat → Prop) : Prop where
  q : Y q
  dm : Y dm
  m : ∀ d, D d → Y (M d)
  x : ∀ k, X k → Y k
def GAt (w : World) (q : Nat) (Y : Nat → Prop) (T : TB) (L : List Nm) (par : Int → Int) (D : Int → Prop) (nb : Nat) : Prop := ∃ t dm M X, NdG w q t dm M X T L par D nb ∧ GIn q dm M X D Y
theorem NdG.lts {w : World} {q t dm : Nat} {M : Int → Nat} {X : Nat → Prop} {T : TB} {L : List Nm} {par : Int → Int} {D : Int → Prop} {nb : Nat} (H : NdG w q t dm M X T L par D nb) : GIn q dm M X D (fun k => k < w.heap.size) := by
  obtain ⟨V, h, _⟩ := H.dirs
  exact ⟨H.nds.lt, h.lt, fun d hd => (H.each d hd).1.lt, H.lt⟩
theorem GIn.mono {q dm : Nat} {M : Int → Nat} {X Y Z : Nat → Prop} {D : Int → Prop} (h : GIn q dm M X D Y) (hyz : ∀ k, Y k → Z k) : GIn q dm M X D Z := ⟨hyz _ h.q, hyz _ h.dm, fun d hd => hyz _ (h.m d hd), fun k hk => hyz _ (h.x k hk)⟩
theorem GIn.and {q dm : Nat} {M : Int → Nat} {X Y Z : Nat → Prop} {D : Int → Prop} (h : GIn q dm M X D Y) (h2 : GIn q dm M X D Z) : GIn q dm M X D (fun k => Y k ∧ Z k) := ⟨⟨h.q, h2.q⟩, ⟨h.dm, h2.dm⟩, fun d hd => ⟨h.m d hd, h2.m d hd⟩, fun k hk => ⟨h.x k hk, h2.x k hk⟩⟩
theorem NdG.grownS {w w' : World} {q t dm : Nat} {M : Int → Nat} {X S : Nat → Prop} {T : TB} {L : List Nm} {par : Int → Int} {D : Int → Prop} {nb : Nat} (H : NdG w q t dm M X T L par D nb) (hg : GrownS w w' S) (hn : GIn q dm M X D (fun k => ¬ S k)) : NdG w' q t dm M X T L par D nb := by
  obtain ⟨V, h1, h2⟩ := H.dirs
  exact ⟨H.nds.grownS hg hn.q, H.tab.grownS hg (fun k _ hk => hn.x k hk), fun k hk => Nat.lt_of_lt_of_le (H.lt k hk) hg.size, H.noq, H.nod, ⟨V, mapV_grownS h1 hg hn.dm, h2⟩, fun d hd => ⟨mapV_grownS (H.each d hd).1 hg (hn.m d hd), (H.each d hd).2⟩, H.inj, H.rng⟩
theorem GAt.grownS {w w' : World} {q nb : Nat} {Y S : Nat → Prop} {T : TB} {L : List Nm} {par : Int → Int} {D : Int → Prop} (H : GAt w q Y T L par D nb) (hg : GrownS w w' S) (hd : ∀ k, k < w.heap.size → Y k → ¬ S k) : GAt w' q Y T L par D nb := by
  obtain ⟨t, dm, M, X, h1, h2⟩ := H
  exact ⟨t, dm, M, X, h1.grownS hg ((h1.lts.and h2).mono (fun k hk => hd k hk.1 hk.2)), h2⟩
theorem GAt.below {w w' : World} {q nb : Nat} {Y : Nat → Prop} {T : TB} {L : List Nm} {par : Int → Int} {D : Int → Prop} (H : GAt w q Y T L par D nb) (hb : Below w.heap.size w w') : GAt w' q Y T L par D nb := H.grownS (S := fun _ => False) (grownS_of_below hb) (fun _ _ _ e => e)
theorem NdG.bel {w w' : World} {q t dm : Nat} {M : Int → Nat} {X : Nat → Prop} {T : TB} {L : List Nm} {par : Int → Int} {D : Int → Prop} {nb : Nat} (H : NdG w q t dm M X T L par D nb) (hb : Below w.heap.size w w') : NdG w' q t dm M X T L par D nb := H.grownS (S := fun _ => False) (grownS_of_below hb) ⟨fun e => e, fun e => e, fun _ _ e => e, fun _ _ e => e⟩
/-- The table turned. -/
theorem NdG.table {w w' : World} {q t dm : Nat} {M : Int → Nat} {X : Nat → Prop} {T T' : TB} {L : List Nm} {par : Int → Int} {D : Int → Prop} {nb : Nat} (H : NdG w q t dm M X T L par D nb) (h1 : TAt w' t (Fresh w X) T' nb) (h2 : GrownS w w' (Fresh w X)) : NdG w' q t dm M (Upto w' (Fresh w X)) T' L par D nb := by
  have lt := H.lts
  have nf : ∀ k, k < w.heap.size → ¬ X k → ¬ Fresh w X k := fun k hk hx h => h.elim hx (fun h => by omega)
  have nu : ∀ k, k < w.heap.size → ¬ X k → ¬ Upto w' (Fresh w X) k := fun k hk hx h => nf k hk hx h.1
  obtain ⟨V, d1, d2⟩ := H.dirs
  exact ⟨H.nds.grownS h2 (nf q lt.q H.noq), h1.mono (fun _ hk hx => ⟨hx, hk⟩), fun _ hk => hk.2, nu q lt.q H.noq, nu dm lt.dm H.nod, ⟨V, mapV_grownS d1 h2 (nf dm lt.dm H.nod), d2⟩, fun d hd => by
    have e := H.each d hd
    exact ⟨mapV_grownS e.1 h2 (nf _ e.1.lt e.2.1), nu _ e.1.lt e.2.1, e.2.2⟩, H.inj, H.rng⟩
theorem GIn.table {w w' : World} {q dm : Nat} {M : Int → Nat} {X Y : Nat → Prop} {D : Int → Prop} (h : GIn q dm M X D Y) (hY : ∀ k, w.heap.size ≤ k → Y k) : GIn q dm M (Upto w' (Fresh w X)) D Y :=
  ⟨h.q, h.dm, h.m, fun k hk => hk.1.elim (h.x k) (hY k)⟩
/-- A directory's names turned. -/
theorem NdG.names {w w' : World} {q t dm : Nat} {M : Int → Nat} {X : Nat → Prop} {T : TB} {L L' : List Nm} {par : Int → Int} {D : Int → Prop} {nb : Nat} (H : NdG w q t dm M X T L par D nb) {d : Int} (hd : D d) (h1 : MapV w' 9 (M d) (datN L' d)) (h2 : GrownS w w' (fun k => k = M d)) (ho : ∀ e, e ≠ d → datN L' e = datN L e) : NdG w' q t dm M X T L' par D nb := by
  obtain ⟨V, d1, d2⟩ := H.dirs
  have e := H.each d hd
  exact ⟨H.nds.grownS h2 (fun e2 => blk_mapV H.nds e.1 e2), H.tab.grownS h2 (fun k _ hx e2 => e.2.1 (by rw [← e2]; exact hx)), fun k hk => Nat.lt_of_lt_of_le (H.lt k hk) h2.size, H.noq, H.nod, ⟨V, mapV_grownS d1 h2 (fun e2 => e.2.2 e2.symm), d2⟩, fun c hc => by
    by_cases hcd : c = d
    · subst hcd; exact ⟨h1, e.2⟩
    · rw [ho c hcd]
      exact ⟨mapV_grownS (H.each c hc).1 h2 (H.inj c d hc hd hcd), (H.each c hc).2⟩, H.inj, H.rng⟩
theorem turned_grownS {w w' : World} {b : Nat} (h : w.mapTurned w' b) : GrownS w w' (fun k => k = b) := by
  have := GrownS.of h.grown (S := fun k => k = b) (fun k e => by simpa using e)
  exact ⟨this.os, this.tape, this.output, this.size, this.block⟩
/-- n.dirs[d] of a directory that has an entry. -/
theorem NdG.look {w : World} {q t dm : Nat} {M : Int → Nat} {X : Nat → Prop} {T : TB} {L : List Nm} {par : Int → Int} {D : Int → Prop} {nb : Nat} (H : NdG w q t dm M X T L par D nb) {d : Int} (hd : D d) (hb : -9223372036854775808 ≤ d ∧ d ≤ 9223372036854775807) : (Instr.lookup 70 (.map (some dm)) (.int .i64 d) false).run Tryz.prog w = .ok (.agg #[.int .i64 (par d), .map (some (M d))]) w := by
  obtain ⟨V, h1, h2, _⟩ := H.dirs
  obtain ⟨v, ps, h3, h4⟩ := h1.lookup lawI und_dirs (zero_dir w) (zd := .held zeroDir) (zp := []) rfl (keyI (wf64 hb))
  have hv : V.atKey (.int .i64 d) (.held zeroDir) = .held v := (Prod.mk.inj (Option.some.inj h4)).1.symm
  rw [h3]
  rw [h2 d hd] at hv
  rw [← DataW.held.inj hv]
  rfl
/-- names[n] = i. -/
theorem NdG.put {w : World} {q t dm : Nat} {M : Int → Nat} {X : Nat → Prop} {T : TB} {L : List Nm} {par : Int → Int} {D : Int → Prop} {nb : Nat} (H : NdG w q t dm M X T L par D nb) {x : Nm} (hd : D x.dir) (hs : Srt L) (hno : ∀ y ∈ L, ¬ (y.dir = x.dir ∧ y.name = x.name)) (hn : x.name.length ≤ 1000000) (hl : L.length ≤ 1000000) : ∃ w', (Instr.mapUpdate 134 (.map (some (M x.dir))) (.string (BA x.name)) (.int .i64 x.node)).run Tryz.prog w = .ok () w' ∧ NdG w' q t dm M X T (putL L x) par D nb ∧ GrownS w w' (fun k => k = M x.dir) := by
  have hsz : Maps.size (datN L x.dir) ≤ 1000000 := by
    rw [dat_size, inL_len]
    exact Nat.le_trans List.countP_le_length hl
  obtain ⟨w', h1, h2, h3⟩ := (H.each x.dir hd).1.store strKeyed und_names (by unfold maxLen; omega) (hk_str x.name (by unfold maxLen; omega)) (val := .int .i64 x.node) (d := .held (.int .i64 x.node)) (ps := []) rfl
  have hc := h2.canon strKeyed
  rw [dat_put hs hno hc] at h2
  exact ⟨w', h1, H.names hd (mapV_tight h2) (turned_grownS h3) (fun e he => dat_put_other (Ne.symm he)), turned_grownS h3⟩
/-- delete(names, n). -/
theorem NdG.drop {w : World} {q t dm : Nat} {M : Int → Nat} {X : Nat → Prop} {T : TB} {L : List Nm} {par : Int → Int} {D : Int → Prop} {nb : Nat} (H : NdG w q t dm M X T L par D nb) {d : Int} (n : List UInt8) (hd : D d) (hn : n.length ≤ 1000000) : ∃ w', (Builtin.delete_ #[134, 9] 0 #[.map (some (M d)), .string (BA n)]).run Tryz.prog w = .ok (.tuple #[]) w' ∧ NdG w' q t dm M X T (dropL L d n) par D nb ∧ GrownS w w' (fun k => k = M d) := by
  obtain ⟨w', h1, h2, h3⟩ := (H.each d hd).1.drop strKeyed und_names (hk_str n (by unfold maxLen; omega)) 0
  rw [dat_del] at h2
  exact ⟨w', h1, H.names hd (mapV_tight h2) (turned_grownS h3) (fun e he => dat_drop_other (Ne.symm he)), turned_grownS h3⟩
/-- n.dirs[d] = directory{p, m}. -/
theorem NdG.setDir {w : World} {q t dm : Nat} {M : Int → Nat} {X : Nat → Prop} {T : TB} {L : List Nm} {par : Int → Int} {D : Int → Prop} {nb : Nat} (H : NdG w q t dm M X T L par D nb) {d p : Int} (m : Nat) (hb : -9223372036854775808 ≤ d ∧ d ≤ 9223372036854775807) (hm : MapV w 9 m (datN L d)) (hX : ¬ X m) (hdm : m ≠ dm) (hi : ∀ e, D e → e ≠ d → M e ≠ m) (hrd : 1 ≤ d ∧ d ≤ 1024) : ∃ w', (Instr.mapUpdate 70 (.map (some dm)) (.int .i64 d) (.agg #[.int .i64 p, .map (some m)])).run Tryz.prog w = .ok () w' ∧ NdG w' q t dm (fun k => if k = d then m else M k) X T L (parU par d p) (fun k => k = d ∨ D k) nb ∧ GrownS w w' (fun k => k = dm) := by
  obtain ⟨V, d1, d2, d3⟩ := H.dirs
  have hlt := dirs_size d1 (fun c hc => d3 c (fun h => hc (H.rng c h)))
  obtain ⟨w', h1, h2, h3⟩ := d1.store lawI und_dirs (by unfold maxLen; omega) (keyI (wf64 hb)) (val := .agg #[.int .i64 p, .map (some m)]) (d := .held (dirV p m)) (ps := []) rfl
  have hg := turned_grownS h3
  have hV : Maps.IsMap V := d1.isMap
  refine ⟨w', h1, ⟨H.nds.grownS hg (fun e => blk_mapV H.nds d1 e), H.tab.grownS hg (fun k _ hx e => H.nod (by rw [← e]; exact hx)), fun k hk => Nat.lt_of_lt_of_le (H.lt k hk) hg.size, H.noq, H.nod, ⟨_, mapV_tight h2, fun c hc z => ?_, fun c hc => ?_⟩, fun c hc => ?_, fun c e hc he hce => ?_, fun c hc => hc.elim (fun e => by rw [e]; exact hrd) (H.rng c)⟩, hg⟩
  · by_cases h : c = d
    · subst h
      rw [atKey_put_same hV (isKey c)]
      simp [parU]
    · rw [atKey_put_other (key_ne h), d2 c (hc.resolve_left h)]
      simp [parU, h]
  · rw [has_put_other (key_ne (fun e => hc (.inl e))), d3 c (fun e => hc (.inr e))]
  · by_cases h : c = d
    · subst h
      simp only [if_pos]
      exact ⟨mapV_grownS hm hg hdm, hX, hdm⟩
    · simp only [if_neg h]
      have e := H.each c (hc.resolve_left h)
      exact ⟨mapV_grownS e.1 hg e.2.2, e.2⟩
  · by_cases h : c = d
    · by_cases h2 : e = d
      · exact absurd (h.trans h2.symm) hce
      · simp only [if_pos h, if_neg h2]
        exact (hi e (he.resolve_left h2) h2).symm
    · by_cases h2 : e = d
      · simp only [if_neg h, if_pos h2]
        exact hi c (hc.resolve_left h) h
      · simp only [if_neg h, if_neg h2]
        exact H.inj c e (hc.resolve_left h) (he.resolve_left h2) hce
/-- delete(n.dirs, d). -/
theorem NdG.delDir {w : World} {q t dm : Nat} {M : Int → Nat} {X : Nat → Prop} {T : TB} {L : List Nm} {par : Int → Int} {D : Int → Prop} {nb : Nat} (H : NdG w q t dm M X T L par D nb) {d : Int} (hb : -9223372036854775808 ≤ d ∧ d ≤ 9223372036854775807) : ∃ w', (Builtin.delete_ #[70, 3] 0 #[.map (some dm), .int .i64 d]).run Tryz.prog w = .ok (.tuple #[]) w' ∧ NdG w' q t dm M X T L par (fun k => k ≠ d ∧ D k) nb ∧ GrownS w w' (fun k => k = dm) := by
  obtain ⟨V, d1, d2, d3⟩ := H.dirs
  obtain ⟨w', h1, h2, h3⟩ := d1.drop lawI und_dirs (keyI (wf64 hb)) 0
  have hg := turned_grownS h3
  refine ⟨w', h1, ⟨H.nds.grownS hg (fun e => blk_mapV H.nds d1 e), H.tab.grownS hg (fun k _ hx e => H.nod (by rw [← e]; exact hx)), fun k hk => Nat.lt_of_lt_of_le (H.lt k hk) hg.size, H.noq, H.nod, ⟨_, mapV_tight h2, fun c hc z => ?_, fun c hc => ?_⟩, fun c hc => ?_, fun c e hc he hce => H.inj c e hc.2 he.2 hce, fun c hc => H.rng c hc.2⟩, hg⟩
  · rw [atKey_del_other (key_ne hc.1)]
    exact d2 c hc.2 z
  · by_cases h : c = d
    · rw [h, has_del_same]
    · rw [has_del_other (key_ne h)]
      exact d3 c (fun e => hc ⟨h, e⟩)
  · have e := H.each c hc.2
    exact ⟨mapV_grownS e.1 hg e.2.2, e.2⟩

end Go.Proofs.YtemologkibcdoaaGreatDoor

/- Sorted keys of maps: contracts of the shelf at this program. -/
namespace Go.Proofs
open Go.RowKit Go.Maps Go.Sort Go.Shelf

/-- slices.Sort's two contracts at this dump, at the fence that asks nothing. -/
theorem Tryz.sorts55 (m : Nat) : AnyZ.SortsIn Tryz.prog Tryz.sorted55_ren Fence.wide m :=
  ⟨fun blk off cap ss W hH hblk hsz => callsIn_wide.2 (AnyM.slices_Sort_string Tryz.sort74 blk off cap ss W hH hblk hsz),
   fun p cap W => callsIn_wide.2 (AnyM.slices_Sort_string_none Tryz.sort74 p cap W)⟩

theorem Tryz.maps_Keys_56 (mb : Option Nat) (W : World) : CallsIn Fence.wide 5 Tryz.prog 56 #[.map mb] W fun e w' => e = .returned (.func (.func 75) #[] #[.pointer (some ⟨W.heap.size, 0, none⟩)]) ∧ w' = W.alloc (.cells #[.map mb] 134) :=
  AnyZ.keys_in Tryz.keys56 Fence.wide 5 trivial rfl mb W

set_option maxHeartbeats 1000000 in
theorem Tryz.slices_Sorted_keys_55_56 {H : Type} (b nn : Nat) (D0 : DataW H) (R : Value → Option (DataW H × List MemPlace)) (w : World) (hown : w.ownsMap Tryz.prog 9 R b nn D0) (hmax : Maps.size D0 ≤ maxLen) (hbytes : Maps.size D0 * 16 ≤ 140737488355328) :
    CallsIn Fence.wide 5 Tryz.prog 55 #[.func (.func 75) #[] #[.pointer (some ⟨w.heap.size, 0, none⟩)]] (w.alloc (.cells #[.map (some b)] 134)) fun e w' => ∃ (v : Value) (ss : List (List UInt8)), e = .returned v ∧ ss.Perm (strKeys D0) ∧
      w'.ownsRow (w.alloc (.cells #[.map (some b)] 134)).heap.size 9 1 v ss.length ((ss.mergeSort (fun x y => decide (x ≤ y))).map encStr) ∧ (v = .slice none 0 0 ↔ ss = []) ∧ Below (w.alloc (.cells #[.map (some b)] 134)).heap.size (w.alloc (.cells #[.map (some b)] 134)) w' := by
  have hbl := hown.lt
  have hseq : SeqGives Fence.wide 2 Tryz.prog 75 #[.pointer (some ⟨w.heap.size, 0, none⟩)] encStr (fun ss => ss.Perm (strKeys D0)) (Maps.size D0) (w.alloc (.cells #[.map (some b)] 134)) :=
    AnyZ.keys_gives (ρ := Tryz.keys56_ren) { Tryz.keys56 with } Fence.wide _ trivial rfl (by omega) w.heap.size b nn D0 _ (by simp) (by simp) (by
      obtain ⟨es, clock, hb, Ft, hs, hD⟩ := hown
      exact ⟨es, clock, (Below.heap_alloc _ _ b hbl).trans hb, Ft, hs, hD⟩)
  exact AnyZ.sorted_in Tryz.sorted55 Fence.wide 5 trivial trivial trivial trivial rfl (by omega) (Tryz.sorts55 _) (enters_of Tryz.func74 (by kernel_rfl) rfl) 75 #[.pointer (some ⟨w.heap.size, 0, none⟩)] trivial (enters_of Tryz.func75 (by kernel_rfl) rfl) _ _ hmax hbytes _ hseq

set_option maxHeartbeats 1000000 in
theorem Tryz.slices_Sorted_keys_nil_55_56 (w : World) :
    CallsIn Fence.wide 5 Tryz.prog 55 #[.func (.func 75) #[] #[.pointer (some ⟨w.heap.size, 0, none⟩)]] (w.alloc (.cells #[.map none] 134)) fun e w' => ∃ (v : Value) (ss : List (List UInt8)), e = .returned v ∧ ss = [] ∧
      w'.ownsRow (w.alloc (.cells #[.map none] 134)).heap.size 9 1 v ss.length ((ss.mergeSort (fun x y => decide (x ≤ y))).map encStr) ∧ (v = .slice none 0 0 ↔ ss = []) ∧ Below (w.alloc (.cells #[.map none] 134)).heap.size (w.alloc (.cells #[.map none] 134)) w' := by
  have hseq : SeqGives Fence.wide 2 Tryz.prog 75 #[.pointer (some ⟨w.heap.size, 0, none⟩)] encStr (fun ss : List (List UInt8) => ss = []) 0 (w.alloc (.cells #[.map none] 134)) :=
    AnyZ.keys_gives_nil (ρ := Tryz.keys56_ren) { Tryz.keys56 with } Fence.wide _ trivial rfl w.heap.size _ (by simp) (by simp)
  exact AnyZ.sorted_in Tryz.sorted55 Fence.wide 5 trivial trivial trivial trivial rfl (by omega) (Tryz.sorts55 _) (enters_of Tryz.func74 (by kernel_rfl) rfl) 75 #[.pointer (some ⟨w.heap.size, 0, none⟩)] trivial (enters_of Tryz.func75 (by kernel_rfl) rfl) _ 0 (Nat.zero_le _) (by omega) _ hseq

/-- slices.Sort's two contracts at this dump, at the fence that asks nothing. -/
theorem Tryz.sorts80 (m : Nat) : AnyZI.SortsIn Tryz.prog Tryz.sorted80_ren Fence.wide m :=
  ⟨fun blk off cap ss W hH hblk hsz => callsIn_wide.2 (AnyM.slices_Sort_int Tryz.sort108 blk off cap ss W hH hblk hsz),
   fun p cap W => callsIn_wide.2 (AnyM.slices_Sort_int_none Tryz.sort108 p cap W)⟩

theorem Tryz.maps_Keys_81 (mb : Option Nat) (W : World) : CallsIn Fence.wide 5 Tryz.prog 81 #[.map mb] W fun e w' => e = .returned (.func (.func 109) #[] #[.pointer (some ⟨W.heap.size, 0, none⟩)]) ∧ w' = W.alloc (.cells #[.map mb] 70) :=
  AnyZI.keys_in Tryz.keys81 Fence.wide 5 trivial rfl mb W

set_option maxHeartbeats 1000000 in
theorem Tryz.slices_Sorted_keys_80_81 {H : Type} (b nn : Nat) (D0 : DataW H) (R : Value → Option (DataW H × List MemPlace)) (w : World) (hown : w.ownsMap Tryz.prog 3 R b nn D0) (hmax : Maps.size D0 ≤ maxLen) (hbytes : Maps.size D0 * 8 ≤ 140737488355328) :
    CallsIn Fence.wide 5 Tryz.prog 80 #[.func (.func 109) #[] #[.pointer (some ⟨w.heap.size, 0, none⟩)]] (w.alloc (.cells #[.map (some b)] 70)) fun e w' => ∃ (v : Value) (ss : List Int), e = .returned v ∧ ss.Perm (intKeys D0) ∧
      w'.ownsRow (w.alloc (.cells #[.map (some b)] 70)).heap.size 3 1 v ss.length ((ss.mergeSort (fun x y => decide (x ≤ y))).map encZ) ∧ (v = .slice none 0 0 ↔ ss = []) ∧ Below (w.alloc (.cells #[.map (some b)] 70)).heap.size (w.alloc (.cells #[.map (some b)] 70)) w' := by
  have hbl := hown.lt
  have hseq : SeqGives Fence.wide 2 Tryz.prog 109 #[.pointer (some ⟨w.heap.size, 0, none⟩)] encZ (fun ss => ss.Perm (intKeys D0)) (Maps.size D0) (w.alloc (.cells #[.map (some b)] 70)) :=
    AnyZI.keys_gives (ρ := Tryz.keys81_ren) { Tryz.keys81 with } Fence.wide _ trivial rfl (by omega) w.heap.size b nn D0 _ (by simp) (by simp) (by
      obtain ⟨es, clock, hb, Ft, hs, hD⟩ := hown
      exact ⟨es, clock, (Below.heap_alloc _ _ b hbl).trans hb, Ft, hs, hD⟩)
  exact AnyZI.sorted_in Tryz.sorted80 Fence.wide 5 trivial trivial trivial trivial rfl (by omega) (Tryz.sorts80 _) (enters_of Tryz.func108 (by kernel_rfl) rfl) 109 #[.pointer (some ⟨w.heap.size, 0, none⟩)] trivial (enters_of Tryz.func109 (by kernel_rfl) rfl) _ _ hmax hbytes _ hseq

set_option maxHeartbeats 1000000 in
theorem Tryz.slices_Sorted_keys_nil_80_81 (w : World) :
    CallsIn Fence.wide 5 Tryz.prog 80 #[.func (.func 109) #[] #[.pointer (some ⟨w.heap.size, 0, none⟩)]] (w.alloc (.cells #[.map none] 70)) fun e w' => ∃ (v : Value) (ss : List Int), e = .returned v ∧ ss = [] ∧
      w'.ownsRow (w.alloc (.cells #[.map none] 70)).heap.size 3 1 v ss.length ((ss.mergeSort (fun x y => decide (x ≤ y))).map encZ) ∧ (v = .slice none 0 0 ↔ ss = []) ∧ Below (w.alloc (.cells #[.map none] 70)).heap.size (w.alloc (.cells #[.map none] 70)) w' := by
  have hseq : SeqGives Fence.wide 2 Tryz.prog 109 #[.pointer (some ⟨w.heap.size, 0, none⟩)] encZ (fun ss : List Int => ss = []) 0 (w.alloc (.cells #[.map none] 70)) :=
    AnyZI.keys_gives_nil (ρ := Tryz.keys81_ren) { Tryz.keys81 with } Fence.wide _ trivial rfl w.heap.size _ (by simp) (by simp)
  exact AnyZI.sorted_in Tryz.sorted80 Fence.wide 5 trivial trivial trivial trivial rfl (by omega) (Tryz.sorts80 _) (enters_of Tryz.func108 (by kernel_rfl) rfl) 109 #[.pointer (some ⟨w.heap.size, 0, none⟩)] trivial (enters_of Tryz.func109 (by kernel_rfl) rfl) _ 0 (Nat.zero_le _) (by omega) _ hseq

end Go.Proofs

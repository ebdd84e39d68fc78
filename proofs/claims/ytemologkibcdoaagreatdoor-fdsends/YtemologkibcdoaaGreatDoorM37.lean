/-
  Numbers of open files: what is open is written; Read and Write of a set.
  Numbers of open files: methods of embedded parts without cells, reached through a pointer.
-/
import Derived.Test.YtemologkibcdoaaGreatDoorM36

/- Numbers of open files: what is open is written; Read and Write of a set. -/
namespace Go.Proofs.YtemologkibcdoaaGreatDoor
open Go.RowKit Go.Maps

theorem read1_any {w : World} {f q nb n x c : Nat} {B : Bas} {Z : Nat → Prop} {A : AS} {sb : List Nat} {H : Hp} {L : Fay} (M : MX w f q Z A.s nb n B H) (Li : Lies H f x L sb A c) (K : AOk A n) {i : Nat} {t : Th} (ht : A.th[i]? = some t) (m : Int) : Calls Tryz.prog (rdF t.wh) #[rdV L i t.wh, .int .i64 m] w fun e w' => e = .returned (.tuple #[.string (BA (rdWhT A m t.wh)), .int .i64 (rdWhE A m t.wh)]) ∧ Hid (∃ H', MX w' f q Z (rdWhA A i m t.wh).s nb n B H' ∧ Lies H' f x L sb (rdWhA A i m t.wh) c ∧ AOk (rdWhA A i m t.wh) n) := by
  obtain ⟨wh, mm⟩ := t
  cases wh with
  | file y => exact fread1_any M Li K ht m
  | rd p => exact rread1_any M Li K ht m
  | wr p => exact (noread_any w m).mono (fun e w' h => ⟨h.1, hide ⟨H, M.below h.2, Li, K⟩⟩)
  | sink k => exact (noread_any w m).mono (fun e w' h => ⟨h.1, hide ⟨H, M.below h.2, Li, K⟩⟩)
  | tape s =>
    have ho : H (L.ob i) = some ⟨.obj i, 94, #[.string (BA s)]⟩ := Li.ob i _ ht
    refine (tread1_any w (L.ob i) s (M.blk _ _ ho) m).mono (fun e w' h => ⟨h.1, hide ?_⟩)
    rw [h.2]
    by_cases h0 : m < 0
    · rw [if_pos h0]
      have e : rdWhA A i m (.tape s) = A := by show (if m < 0 then A else _) = A; rw [if_pos h0]
      dsimp only
      rw [e]
      exact ⟨H, M, Li, K⟩
    · rw [if_neg h0]
      have e : rdWhA A i m (.tape s) = { setWh A i (.tape (s.drop m.toNat)) with s := A.s } := by
        show (if m < 0 then A else _) = _
        rw [if_neg h0, setWh_th ht]
      dsimp only
      rw [e]
      have hw := K.wh i _ ht
      refine ⟨_, M.set ho 0 (.string (BA (s.drop m.toNat))), (Li.objs ht ho rfl (.tape (s.drop m.toNat)) rfl (upd_self _ _ _)).tree A.s, ok_wh K ht (y := .tape (s.drop m.toNat)) ?_ A.s⟩
      have hw : s.length ≤ 1000000 := hw
      show (s.drop m.toNat).length ≤ 1000000
      rw [List.length_drop]
      omega
set_option maxRecDepth 20000 in
set_option maxHeartbeats 1000000 in
theorem fwrite1_any {w : World} {f q nb n x c : Nat} {B : Bas} {Z : Nat → Prop} {A : AS} {sb : List Nat} {H : Hp} {L : Fay} (M : MX w f q Z A.s nb n B H) (Li : Lies H f x L sb A c) (K : AOk A n) {i mm : Nat} {y : Fl} (ht : A.th[i]? = some ⟨.file y, mm⟩) (hn : n ≤ 9000) (d : List UInt8) (hd : d.length ≤ 100000) : Calls Tryz.prog 224 #[.agg #[ptrV (L.ob i)], .string (BA d)] w fun e w' => ∃ N E, e = .returned (.tuple #[.int .i64 N, .int .i64 E]) ∧ Hid (∃ A' H', WrWh A nb i d (.file y) N E A' ∧ MX w' f q Z A'.s nb (n + 1) B H' ∧ Lies H' f x L sb A' c ∧ AOk A' (n + 1)) := by
  have ho := K.wh i _ ht
  have M2 := M.below (below_al w #[ptrV (L.ob i)] 103)
  have HC := hide (xwrite_any (file_at M2 Li ht ho) (j := 0) rfl (by omega) d hd)
  have HB : Hid (∀ w' N E, (∃ s' x', XwrSp A.s nb y d N E s' x' ∧ GX w' f q (Yof Z H) s' nb (n + 1) ⟨B.w, (w.alloc (.cells #[ptrV (L.ob i)] 103)), fun k => Yof Z H k ∨ k = L.ob i⟩ ([(L.ob i, y)].set 0 (L.ob i, x'))) → ∃ A' H', WrWh A nb i d (.file y) N E A' ∧ MX w' f q Z A'.s nb (n + 1) B H' ∧ Lies H' f x L sb A' c ∧ AOk A' (n + 1)) := hide (fun w' N E h => by
    obtain ⟨s', x', h1, G⟩ := h
    obtain ⟨H', m1, m2⟩ := file_back M2 Li ht G
    exact ⟨_, H', .file y N E s' x' h1, m1, m2, (ok_wh K ht (y := .file x') (G.ok 0 _ _ rfl) s').mono (Nat.le_succ _)⟩)
  obtain ⟨T, hT⟩ : ∃ T, T = BA d := ⟨_, rfl⟩
  rw [← hT] at HC ⊢
  unfold ptrV at *
  obtain ⟨ob, hob⟩ : ∃ ob, ob = L.ob i := ⟨_, rfl⟩
  rw [← hob] at HC HB ⊢
  clear M Li M2 ht K hT hob
  go_enter Tryz.func224, Tryz.ntmps224
  go_wp2_with fail
  refine (unhide HC).mono ?_
  rintro e w1 ⟨N, E, rfl, h1⟩
  have H1 := hide (unhide HB _ N E (unhide h1))
  clear h1 HC HB
  go_wp2_with fail
  go_ret2
  exact ⟨N, E, rfl, H1⟩
set_option maxRecDepth 20000 in
set_option maxHeartbeats 1000000 in
theorem wwrite1_any {w : World} {f q nb n x c : Nat} {B : Bas} {Z : Nat → Prop} {A : AS} {sb : List Nat} {H : Hp} {L : Fay} (M : MX w f q Z A.s nb n B H) (Li : Lies H f x L sb A c) (K : AOk A n) {i p mm : Nat} (ht : A.th[i]? = some ⟨.wr p, mm⟩) (d : List UInt8) : Calls Tryz.prog 246 #[.agg #[ptrV (L.pb p)], .string (BA d)] w fun e w' => e = .returned (.tuple #[.int .i64 (Pi.wrN (ppA A p) d : Int), .int .i64 (Pi.wrE (ppA A p) d)]) ∧ Hid (∃ H', MX w' f q Z (setPp A p (fun y => Pi.wrS y d)).s nb n B H' ∧ Lies H' f x L sb (setPp A p (fun y => Pi.wrS y d)) c) := by
  have hp : p < A.pp.length := K.wh i _ ht
  have M2 := M.below (below_al w #[ptrV (L.pb p)] 119)
  obtain ⟨y, hy⟩ : ∃ y, A.pp[p]? = some y := ⟨_, List.getElem?_eq_getElem hp⟩
  have HC := hide (Pi.write_any (pipe_at M2 Li hy) d)
  have HB := hide (fun w' h1 h2 => pipe_back M2 Li hy (w' := w') (y' := Pi.wrS y d) h1 h2)
  rw [pp_at hy, setPp_at hy]
  obtain ⟨T, hT⟩ : ∃ T, T = BA d := ⟨_, rfl⟩
  obtain ⟨E, hE⟩ : ∃ E, E = Pi.wrE y d := ⟨_, rfl⟩
  obtain ⟨N, hN⟩ : ∃ N, N = Pi.wrN y d := ⟨_, rfl⟩
  rw [← hT] at HC ⊢
  rw [← hE, ← hN] at HC ⊢
  unfold ptrV at *
  obtain ⟨ob, hob⟩ : ∃ ob, ob = L.pb p := ⟨_, rfl⟩
  rw [← hob] at HC HB ⊢
  clear M Li M2 ht K hT hE hN hob
  go_enter Tryz.func246, Tryz.ntmps246
  go_wp2_with fail
  refine (unhide HC).mono ?_
  rintro e w1 ⟨rfl, h1, h2⟩
  have H1 := hide (unhide HB _ h1 h2)
  clear h1 h2 HC HB
  go_wp2_with fail
  go_ret2
  exact ⟨rfl, H1⟩
set_option maxRecDepth 20000 in
set_option maxHeartbeats 1000000 in
theorem kwrite1_any {w : World} {f q nb n x c : Nat} {B : Bas} {Z : Nat → Prop} {A : AS} {sb : List Nat} {H : Hp} {L : Fay} (M : MX w f q Z A.s nb n B H) (Li : Lies H f x L sb A c) {k : Nat} {t : List UInt8} (hk : A.sk[k]? = some t) (d : List UInt8) (hd : t.length + d.length ≤ 140737488355328) : Calls Tryz.prog 235 #[ptrV (L.kb k), .string (BA d)] w fun e w' => e = .returned (.tuple #[.int .i64 (d.length : Int), .int .i64 0]) ∧ Hid (∃ H', MX w' f q Z A.s nb n B H' ∧ Lies H' f x L sb { A with sk := A.sk.set k (t ++ d) } c) := by
  have HC := hide (kbytes_any M Li hk d hd)
  obtain ⟨T, hT⟩ : ∃ T, T = BA d := ⟨_, rfl⟩
  obtain ⟨ln, hln⟩ : ∃ ln, ln = d.length := ⟨_, rfl⟩
  have hTs : T.size = ln := by rw [hT, hln]; rfl
  rw [← hT, ← hln] at HC ⊢
  unfold ptrV
  obtain ⟨ob, hob⟩ : ∃ ob, ob = L.kb k := ⟨_, rfl⟩
  rw [← hob] at HC ⊢
  clear M Li hk hT hln hob
  go_enter Tryz.func235, Tryz.ntmps235
  go_wp2_with fail
  refine (unhide HC).mono ?_
  rintro e w1 ⟨rfl, h1⟩
  clear HC
  go_wp2_with fail
  go_ret2
  exact ⟨rfl, h1⟩
def wrF : Wh → Nat
  | .file _ => 224
  | .rd _ => 220
  | .wr _ => 246
  | .tape _ => 220
  | .sink _ => 235
def wrV (L : Fay) (i : Nat) : Wh → Value
  | .file _ => .agg #[ptrV (L.ob i)]
  | .rd _ => .agg #[]
  | .wr p => .agg #[ptrV (L.pb p)]
  | .tape _ => .agg #[]
  | .sink k => ptrV (L.kb k)
theorem ok_sk {A : AS} {n k : Nat} (K : AOk A n) {t d : List UInt8} (hk : A.sk[k]? = some t) (hd : d.length ≤ 100000) : AOk { A with sk := A.sk.set k (t ++ d) } (n + 1) := by
  have K1 := K.mono (Nat.le_succ n)
  refine ⟨K1.row, K1.cnt, K1.len, K1.few, by simpa using K1.sks, fun j s hs => ?_, fun j u hj => ?_⟩
  · rcases get_set hs with ⟨rfl, rfl⟩ | ⟨_, hs⟩
    · have := K.skl j t hk
      rw [List.length_append]
      omega
    · exact K1.skl j s hs
  · have := K.wh j u hj
    cases hu : u.wh <;> rw [hu] at this
    · exact this
    · exact this
    · exact this
    · exact this
    · show _ < (A.sk.set _ _).length
      rw [List.length_set]
      exact this
theorem write1_any {w : World} {f q nb n x c : Nat} {B : Bas} {Z : Nat → Prop} {A : AS} {sb : List Nat} {H : Hp} {L : Fay} (M : MX w f q Z A.s nb n B H) (Li : Lies H f x L sb A c) (K : AOk A n) {i : Nat} {t : Th} (ht : A.th[i]? = some t) (hn : n ≤ 9000) (d : List UInt8) (hd : d.length ≤ 100000) : Calls Tryz.prog (wrF t.wh) #[wrV L i t.wh, .string (BA d)] w fun e w' => ∃ N E, e = .returned (.tuple #[.int .i64 N, .int .i64 E]) ∧ Hid (∃ A' H', WrWh A nb i d t.wh N E A' ∧ MX w' f q Z A'.s nb (n + 1) B H' ∧ Lies H' f x L sb A' c ∧ AOk A' (n + 1)) := by
  obtain ⟨wh, mm⟩ := t
  cases wh with
  | file y => exact fwrite1_any M Li K ht hn d hd
  | rd p => exact (nowrite_any w _).mono (fun e w' h => ⟨_, _, h.1, hide ⟨A, H, .rd p, (M.below h.2).mono (Nat.le_succ _), Li, K.mono (Nat.le_succ _)⟩⟩)
  | tape s => exact (nowrite_any w _).mono (fun e w' h => ⟨_, _, h.1, hide ⟨A, H, .tape s, (M.below h.2).mono (Nat.le_succ _), Li, K.mono (Nat.le_succ _)⟩⟩)
  | wr p =>
    refine (wwrite1_any M Li K ht d).mono (fun e w' h => ⟨_, _, h.1, hide ?_⟩)
    obtain ⟨H', m1, m2⟩ := unhide h.2
    exact ⟨_, H', .wr p, m1.mono (Nat.le_succ _), m2, (ok_pp K p _).mono (Nat.le_succ _)⟩
  | sink k =>
    have hk : k < A.sk.length := K.wh i _ ht
    obtain ⟨s, hs⟩ : ∃ s, A.sk[k]? = some s := ⟨_, List.getElem?_eq_getElem hk⟩
    have := K.skl k s hs
    refine (kwrite1_any M Li hs d (by omega)).mono (fun e w' h => ⟨_, _, h.1, hide ?_⟩)
    obtain ⟨H', m1, m2⟩ := unhide h.2
    exact ⟨_, H', .sink k s hs, m1.mono (Nat.le_succ _), m2, ok_sk K hs hd⟩

end Go.Proofs.YtemologkibcdoaaGreatDoor

/- Numbers of open files: methods of embedded parts without cells, reached through a pointer. -/
namespace Go.Proofs.YtemologkibcdoaaGreatDoor
open Go.RowKit Go.Maps

theorem byte_run {w : World} {b : Nat} {t : TypeId} {cs : Array Value} (H : Blk w b t cs) {s c : Nat} (h1 : Tryz.prog.cellsOf t = s) (h0 : s ≠ 0) (h2 : byteOfCell Tryz.prog Tryz.prog.depth t 0 = some c) : (Go.byteOf ⟨b, 0, none⟩).run Tryz.prog w = Result.ok (0 / s * Tryz.prog.bytesOf t + c) w := by
  have hs : w.shape? b = some (t, cs.size) := by simp [World.shape?, show w.heap[b]? = _ from H]
  unfold Go.byteOf noView viewAt
  simp [go_sem, hs, h1, h0, h2]
theorem part_run {w : World} {b : Nat} {c : Nat} (h : (Go.byteOf ⟨b, 0, none⟩).run Tryz.prog w = Result.ok c w) : (partAt ⟨b, 0, none⟩ 0 0).run Tryz.prog w = Result.ok ⟨b, 0, none⟩ w := by
  unfold partAt
  simp [go_sem, h]
set_option maxRecDepth 20000 in
theorem meth_emb {w : World} {b t st F tt : Nat} {nm : String} {fuel : Nat} (hI : (Tryz.prog.info? t).map (fun i => (i.methods.find? (fun m => m.name == nm)).map (fun m => (m.path, m.func))) = some (some (#[⟨st, 0, true⟩], some (F, false)))) (hu : (Tryz.prog.underlying st).map (fun d => match d with | .struct fs => (fs[0]?).map (fun f => (f.type, f.offset, f.byteOffset)) | _ => none) = some (some (tt, 0, 0))) (hz : (sizeOf tt).run Tryz.prog w = Result.ok 0 w) (hag : (isAgg tt).run Tryz.prog w = Result.ok true w) (hund : ∃ d, Tryz.prog.underlying tt = some (.struct d)) (hp : (partAt ⟨b, 0, none⟩ 0 0).run Tryz.prog w = Result.ok ⟨b, 0, none⟩ w) : (method (fuel + 1) t (.pointer (some ⟨b, 0, none⟩)) nm).run Tryz.prog w = Result.ok (F, .agg #[]) w := by
  obtain ⟨i, hi, h2⟩ := Option.map_eq_some_iff.1 hI
  obtain ⟨m, hm, h3⟩ := Option.map_eq_some_iff.1 h2
  injection h3 with h4 h5
  obtain ⟨d, hd, h6⟩ := Option.map_eq_some_iff.1 hu
  obtain ⟨dd, hdd⟩ := hund
  unfold method
  cases d with
  | struct fs =>
    simp only at h6
    obtain ⟨sd, h7, h8⟩ := Option.map_eq_some_iff.1 h6
    injection h8 with h8 h9
    injection h9 with h9 h10
    subst h8
    simp [go_sem, run_typeInfo w hi, hm, h4, h5, follow, run_underlying hd, h7, Place.get, fieldPlace, hz, h9, h10, hp, receiverAt, run_underlying hdd, loadVar, hag, loadCells, loadCellsFrom]
  | _ => simp at h6
theorem meth_sink {w : World} {b : Nat} {cs : Array Value} (H : Blk w b 113 cs) (fuel : Nat) : (method (fuel + 1) 106 (.pointer (some ⟨b, 0, none⟩)) "conch/fds.read").run Tryz.prog w = Result.ok (234, .agg #[]) w :=
  meth_emb (st := 113) (tt := 107) (by kernel_rfl) (by kernel_rfl) (by kernel_rfl) (by kernel_rfl) ⟨#[], by kernel_rfl⟩ (part_run (byte_run H (s := 2) (c := 0) (by kernel_rfl) (by decide) (by kernel_rfl)))
theorem meth_tape {w : World} {b : Nat} {cs : Array Value} (H : Blk w b 94 cs) (fuel : Nat) : (method (fuel + 1) 90 (.pointer (some ⟨b, 0, none⟩)) "conch/fds.write").run Tryz.prog w = Result.ok (220, .agg #[]) w :=
  meth_emb (st := 94) (tt := 92) (by kernel_rfl) (by kernel_rfl) (by kernel_rfl) (by kernel_rfl) ⟨#[], by kernel_rfl⟩ (part_run (byte_run H (s := 1) (c := 0) (by kernel_rfl) (by decide) (by kernel_rfl)))

end Go.Proofs.YtemologkibcdoaaGreatDoor

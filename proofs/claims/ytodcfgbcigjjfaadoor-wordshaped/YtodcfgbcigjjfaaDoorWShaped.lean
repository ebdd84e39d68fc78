/-
  The law's shaped, where all is well.
-/
import Derived.Test.YtodcfgbcigjjfaaDoorWShC
namespace Go.Proofs.YtodcfgbcigjjfaaDoor
open Go.RowKit

set_option maxRecDepth 1000000 in
set_option maxHeartbeats 40000000 in
theorem sh_part {w wr : World} {g o n cap k : Nat} {Q : Exit → Act → World → Prop} {u2 u4 u5 u6 u7 u8 u9 u10 u11 u12 u13 u14 u15 u16 u17 u18 u19 u20 u21 u22 u23 u24 u25 u26 u27 u28 u29 u30 u31 u32 u33 u34 u35 u36 u37 u38 u39 u40 u41 u42 u43 u44 u45 u46 u47 u48 u49 u50 u51 u52 u53 u54 u55 u56 u57 u58 u59 u60 u61 u62 u63 u64 u65 u66 u67 u68 u69 u70 u71 u72 u73 u74 u75 u76 u77 u78 u79 u80 u81 u82 u83 u84 u85 u86 u87 u88 u89 u90 u91 u92 u93 u94 u95 u96 u97 u98 u99 u100 u101 u102 u103 u104 u105 u106 u107 u108 u109 u110 u111 u112 : Value} {kd op : Int} {t : List UInt8} {q c : Bool} {va : Option Addr} {m vc : Nat} (hlt : k < n) (hn : n ≤ 9223372036854775807) (HB : Hid (Below w.heap.size w wr)) (hgl : g < wr.heap.size)
    (c0 : wr.cell? ⟨g, o + k * 6, none⟩ = some (.int .i64 kd)) (c1 : wr.cell? ⟨g, o + k * 6 + 1, none⟩ = some (.string (BA t))) (c2 : wr.cell? ⟨g, o + k * 6 + 2, none⟩ = some (.bool q)) (c3 : wr.cell? ⟨g, o + k * 6 + 3, none⟩ = some (.int .i64 op)) (c4 : wr.cell? ⟨g, o + k * 6 + 4, none⟩ = some (.bool c)) (c5 : wr.cell? ⟨g, o + k * 6 + 5, none⟩ = some (.slice va m vc))
    (HS : Hid (1 ≤ kd ∧ kd ≤ 4 ∧ 0 ≤ op ∧ op ≤ 9 ∧ (kd ≠ 2 → op = 0 ∧ c = false) ∧ (kd = 1 → q = false → t ≠ []) ∧ (op < 2 → m = 0) ∧ (c = true → 2 ≤ op ∧ op ≤ 5)))
    (HP : Hid (k = 0 ∨ ∃ (j : Nat) (kd' : Int) (q' : Bool), k = j + 1 ∧ wr.cell? ⟨g, o + j * 6, none⟩ = some (.int .i64 kd') ∧ wr.cell? ⟨g, o + j * 6 + 2, none⟩ = some (.bool q') ∧ (kd' = 1 → kd = 1 → q' ≠ q)))
    (HC : Hid (∀ w1, Below wr.heap.size wr w1 → Calls Tryd.prog 16 #[.slice va m vc] w1 fun e w' => e = .returned (.bool true) ∧ Below w1.heap.size w1 w')) :
    Code.wp Tryd.prog shBody (Exit.then (fun a' w'' => ShI w (some ⟨g, o, none⟩) n cap a' w'' ∧ ShMu n a' w'' < n - k) Q) ⟨#[.slice (some ⟨g, o, none⟩) n cap, undef, u2, .int .i64 (k : Int), u4, u5, u6, u7, u8, u9, u10, u11, u12, u13, u14, u15, u16, u17, u18, u19, u20, u21, u22, u23, u24, u25, u26, u27, u28, u29, u30, u31, u32, u33, u34, u35, u36, u37, u38, u39, u40, u41, u42, u43, u44, u45, u46, u47, u48, u49, u50, u51, u52, u53, u54, u55, u56, u57, u58, u59, u60, u61, u62, u63, u64, u65, u66, u67, u68, u69, u70, u71, u72, u73, u74, u75, u76, u77, u78, u79, u80, u81, u82, u83, u84, u85, u86, u87, u88, u89, u90, u91, u92, u93, u94, u95, u96, u97, u98, u99, u100, u101, u102, u103, u104, u105, u106, u107, u108, u109, u110, u111, u112], []⟩ wr := by
  conv => arg 2; whnf
  have hlt1 : (k : Int) < (n : Int) := by omega
  have hk0 : (0 : Int) ≤ (k : Int) := by omega
  obtain ⟨k1, hk1⟩ : ∃ y, y = k + 1 := ⟨_, rfl⟩
  have hwk : IntKind.i64.wrap ((k : Int) + 1) = (k1 : Int) := by rw [IntKind.wrap_i64]; omega
  have HK1 := hide hk1
  have HLT := hide hlt
  have HN := hide hn
  clear hk1 hlt hn
  go_upto_region 5 with fail
  obtain ⟨W, hW⟩ : ∃ W, W = wr.alloc (.cells #[.int .i64 kd, .string (BA t), .bool q, .int .i64 op, .bool c, .slice va m vc] 35) := ⟨_, rfl⟩
  rw [← hW]
  have HBW : Hid (Below wr.heap.size wr W) := hide (by rw [hW]; exact (Below.refl _ wr).alloc (Nat.le_refl _) _)
  have hblk : Blk W wr.heap.size 35 #[.int .i64 kd, .string (BA t), .bool q, .int .i64 op, .bool c, .slice va m vc] := by rw [hW]; exact Blk.new _ _ _
  have HPW : Hid (k = 0 ∨ ∃ (j : Nat) (kd' : Int) (q' : Bool), k = j + 1 ∧ W.cell? ⟨g, o + j * 6, none⟩ = some (.int .i64 kd') ∧ W.cell? ⟨g, o + j * 6 + 2, none⟩ = some (.bool q') ∧ (kd' = 1 → kd = 1 → q' ≠ q)) := hide (by
    rcases unhide HP with h | ⟨j, kd', q', hj, d0, d2, h⟩
    · exact .inl h
    · exact .inr ⟨j, kd', q', hj, by rw [(unhide HBW).cell hgl]; exact d0, by rw [(unhide HBW).cell hgl]; exact d2, h⟩)
  obtain ⟨s1, s2, s3, s4, s5, s6, s7, s8⟩ := unhide HS
  obtain ⟨nb, hnb⟩ : ∃ nb, nb = wr.heap.size := ⟨_, rfl⟩
  rw [← hnb]
  rw [← hnb] at hblk
  have HE := hide hblk
  clear hW hnb hblk c0 c1 c2 c3 c4 c5 hwk hlt1
  refine sh5 ((unhide HE).cell 0 rfl) ((unhide HE).cell 3 rfl) ((unhide HE).cell 4 rfl) s1 s2 s3 s4 s5 ?_
  intro F
  have H6 := hide s6
  have H7 := hide s7
  have H8 := hide s8
  clear s1 s2 s3 s4 s5 s6 s7 s8 HS
  go_upto_region 7 with fail
  refine sh7 ((unhide HE).cell 0 rfl) ((unhide HE).cell 1 rfl) ((unhide HE).cell 2 rfl) (unhide H6) (unhide HPW) (unhide HLT) (unhide HN) ?_
  intro md G
  go_upto_region 9 with fail
  refine sh9 (W := W.drewN md) ((unhide HE).cell 3 rfl) ((unhide HE).cell 4 rfl) ((unhide HE).cell 5 rfl) (unhide H7) (unhide H8) (hide (unhide HC _ ((unhide HBW).trans ((below_drew W md).mono (unhide HBW).size)))) ?_
  refine hide ?_
  intro w1 G2 b1
  have HBB : Hid (Below w.heap.size w w1) := hide ((unhide HB).trans (((unhide HBW).trans (((below_drew W md).trans (b1.mono (Nat.le_refl _))).mono (unhide HBW).size)).mono (unhide HB).size))
  have hwk : IntKind.i64.wrap ((k : Int) + 1) = (k1 : Int) := by have := unhide HK1; have := unhide HLT; have := unhide HN; rw [IntKind.wrap_i64]; omega
  clear b1 HE HBW HPW H6 H7 H8 HC HP
  go_wp2_with fail
  exact ⟨ShI_intro (by have := unhide HK1; have := unhide HLT; omega) HBB, show n - k1 < n - k by have := unhide HK1; have := unhide HLT; omega⟩

set_option maxRecDepth 1000000 in
set_option maxHeartbeats 40000000 in
theorem sh_exit {w wr : World} {ad : Option Addr} {n cap k : Nat} {K : Act → World → Prop} {Q : Exit → Act → World → Prop} {u2 u4 u5 u6 u7 u8 u9 u10 u11 u12 u13 u14 u15 u16 u17 u18 u19 u20 u21 u22 u23 u24 u25 u26 u27 u28 u29 u30 u31 u32 u33 u34 u35 u36 u37 u38 u39 u40 u41 u42 u43 u44 u45 u46 u47 u48 u49 u50 u51 u52 u53 u54 u55 u56 u57 u58 u59 u60 u61 u62 u63 u64 u65 u66 u67 u68 u69 u70 u71 u72 u73 u74 u75 u76 u77 u78 u79 u80 u81 u82 u83 u84 u85 u86 u87 u88 u89 u90 u91 u92 u93 u94 u95 u96 u97 u98 u99 u100 u101 u102 u103 u104 u105 u106 u107 u108 u109 u110 u111 u112 : Value} (hlt : ¬ k < n) (hk : k ≤ n) (HB : Hid (Below w.heap.size w wr)) (hK : ∀ a' w'', ShI w ad n cap a' w'' → K a' w'') :
    Code.wp Tryd.prog shBody (Exit.then (fun a' w'' => ShI w ad n cap a' w'' ∧ ShMu n a' w'' < n - k) (Exit.inBlock 0 (Exit.then K Q))) ⟨#[.slice ad n cap, undef, u2, .int .i64 (k : Int), u4, u5, u6, u7, u8, u9, u10, u11, u12, u13, u14, u15, u16, u17, u18, u19, u20, u21, u22, u23, u24, u25, u26, u27, u28, u29, u30, u31, u32, u33, u34, u35, u36, u37, u38, u39, u40, u41, u42, u43, u44, u45, u46, u47, u48, u49, u50, u51, u52, u53, u54, u55, u56, u57, u58, u59, u60, u61, u62, u63, u64, u65, u66, u67, u68, u69, u70, u71, u72, u73, u74, u75, u76, u77, u78, u79, u80, u81, u82, u83, u84, u85, u86, u87, u88, u89, u90, u91, u92, u93, u94, u95, u96, u97, u98, u99, u100, u101, u102, u103, u104, u105, u106, u107, u108, u109, u110, u111, u112], []⟩ wr := by
  conv => arg 2; whnf
  have hlt1 : ¬ (k : Int) < (n : Int) := by omega
  have HK := hide hk
  clear hk hlt
  go_wp2_with fail
  exact ShI_intro (unhide HK) HB

set_option maxRecDepth 20000 in
set_option maxHeartbeats 4000000 in
theorem shaped_all : ∀ (N : Nat) (a : List Prt) (x : Value) (w : World) (A : Nat → Prop), SizeOf.sizeOf a ≤ N → WAt w A x a → (∀ k, A k → k < w.heap.size) → ShW a → Calls Tryd.prog 16 #[x] w fun e w' => e = .returned (.bool true) ∧ Below w.heap.size w w'
  | 0, a, _, _, _, hN, _, _, _ => absurd hN (by cases a <;> simp)
  | N + 1, a, x, w, A, hN, hx, hA, hS => by
    obtain ⟨ada, capa, rfl, hla⟩ := hx.len
    have HX := hide hx
    have HR := hide (shaped_all N)
    have HSN := hide hN
    have HS := hide hS
    have HA := hide hA
    clear hx hN hS hA
    obtain ⟨n, hn⟩ : ∃ n, n = a.length := ⟨_, rfl⟩
    rw [← hn] at hla HX ⊢
    have HN := hide hn
    have HL := hide hla
    clear hn hla
    go_enter Tryd.func16, Tryd.ntmps16
    go_wp2_with fail
    rename_i Kk hKk
    refine wp_loop (ShI w ada n capa) (ShMu n) (ShI_intro (k := 0) (Nat.zero_le _) (hide (Below.refl _ _))) ?_
    intro a' wr hI
    obtain ⟨M, hM⟩ : ∃ M, M = ShMu n a' wr := ⟨_, rfl⟩
    rw [← hM]
    obtain ⟨F, k, hk, HB, rfl⟩ := hI
    have hM' : M = n - k := hM
    clear hM
    subst hM'
    by_cases hlt : k < n
    · obtain ⟨p, hp⟩ := get_ex (l := a) (k := k) (by have := unhide HN; omega)
      have hwat := (unhide HX).below (unhide HB) (unhide HA)
      obtain ⟨g, o, v, had, hg, c0, c1, c2, c3, c4, c5, hsub⟩ := hwat.part hp
      obtain ⟨va, vc, rfl, hvl⟩ := hsub.len
      have hgl := Nat.lt_of_lt_of_le (unhide HA _ hg) (unhide HB).size
      subst had
      obtain ⟨s1, s2, s3, s4, s5, s6, s7, s8, s9⟩ := ((unhide HS).1 p (mem_of hp)).all
      refine sh_part hlt (unhide HL) HB hgl c0 c1 c2 c3 c4 c5 (hide ⟨s1, s2, s3, s4, s5, s6, fun h => by rw [s7 h]; rfl, s8⟩) (hide ?_) (hide ?_)
      · cases k with
        | zero => exact .inl rfl
        | succ j =>
          obtain ⟨p', hp'⟩ := get_ex (l := a) (k := j) (by have := unhide HN; omega)
          obtain ⟨g', o', v', e', _, d0, _, d2, _⟩ := hwat.part hp'
          cases e'
          exact .inr ⟨j, p'.kind, p'.quote, rfl, d0, d2, (unhide HS).2.two hp' hp⟩
      · exact fun w1 h1 => unhide HR p.sub _ w1 A (by have := sub_lt p a (mem_of hp); have := unhide HSN; omega) (hsub.below h1 (fun k h => Nat.lt_of_lt_of_le (unhide HA k h) (unhide HB).size)) (fun k h => Nat.lt_of_lt_of_le (unhide HA k h) (Nat.le_trans (unhide HB).size h1.size)) s9
    · refine sh_exit hlt hk HB ?_
      rintro a' w3 ⟨f, k, hk, HB, rfl⟩
      refine hKk _ _ ?_
      clear hKk
      go_wp2
      go_ret
      exact ⟨rfl, unhide HB⟩

end Go.Proofs.YtodcfgbcigjjfaaDoor

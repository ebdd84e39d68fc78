/-
  FdsShare: a set and one that was forked of it share their places.
-/
import Derived.Test.YtemologkibcdoaaGreatDoorM42
import Derived.Test.YtemologkibcdoaaGreatDoorOfOne
namespace Go.Proofs.YtemologkibcdoaaGreatDoor
open Go.RowKit Go.Maps

def rwS : List (Option Nat) := [some 0, some 1, none, none, none, none, none, none, none, none, none, none, none, none, none, none]
def R9s : TB := List.replicate 7 none
/-- The state behind the fork. -/
def shS (r : List UInt8) (at' : Int) (y : Nd) : AS := ⟨oneS R9s LA parA y, [⟨.tape r, 2⟩, ⟨.file ⟨false, 2, at', 10⟩, 2⟩], [], [], [rwS, rwS]⟩
def sh1 (s : NS) (t : List UInt8) : AS := ⟨s, [⟨.tape t, 1⟩], [], [], [[some 0, none, none, none, none, none, none, none, none, none, none, none, none, none, none, none]]⟩
def sh2 (t : List UInt8) : AS := ⟨oneS R9s LA parA (ndA 1), [⟨.tape t, 1⟩, ⟨.file ⟨false, 2, 0, 10⟩, 1⟩], [], [], [rwS]⟩
theorem sh_tap (s : NS) (t : List UInt8) : tapA (nwSt (A0 s)) 0 0 t = sh1 s t := rfl
theorem sh_tapE (s : NS) : refNewL (row (nwSt (A0 s)) 0) 0 = 0 := rfl
theorem bad10 : badF 10 = false := by kernel_rfl
theorem has10 : hasF 10 8 = true ∧ hasF 10 18 = false ∧ hasF 10 2 = true ∧ hasF 10 4 = false := ⟨by kernel_rfl, by kernel_rfl, by kernel_rfl, by kernel_rfl⟩
theorem sh_nums (s : NS) (t : List UInt8) : numsL (row (sh1 s t) 0) false = 1 :: [2, 3, 4, 5, 6, 7, 8, 9, 10, 11, 12, 13, 14, 15] := rfl
theorem sh_opn {t : List UInt8} {N E : Int} {A' : AS} (h : OpnA (sh1 (rootS 9) t) 64 0 1 [97] 10 N E A') : N = 1 ∧ E = 0 ∧ A' = sh2 t := by
  cases h with
  | full h => rw [sh_nums] at h; cases h
  | err j r E s' h1 h2 =>
    obtain ⟨_, h3, _⟩ := fo_first first9 h2 bad10 has10.1 has10.2.1
    cases h3
  | ok j r y s' h1 h2 =>
    rw [sh_nums] at h1
    injection h1 with h1 _
    subst h1
    obtain ⟨_, h3, h4⟩ := fo_first first9 h2 bad10 has10.1 has10.2.1
    injection h3 with h3
    subst h3
    subst h4
    exact ⟨rfl, rfl, rfl⟩
theorem sh_frk (t : List UInt8) : frkA (sh2 t) 0 = shS t 0 (ndA 1) := rfl
theorem sh_red (r : List UInt8) (at' : Int) (y : Nd) {k : Nat} (hk : k < 2) (m : Nat) : redT (shS r at' y) k 0 (m : Int) = r.take m ∧ redE (shS r at' y) k 0 (m : Int) = 0 ∧ redA (shS r at' y) k 0 (m : Int) = shS (r.drop m) at' y := by
  have h0 : ¬ (m : Int) < 0 := by omega
  have e : (m : Int).toNat = m := by omega
  have h1 : numL (row (shS r at' y) k) 0 = some 0 := by
    match k, hk with
    | 0, _ => rfl
    | 1, _ => rfl
  unfold redT redE redA
  rw [h1]
  refine ⟨?_, ?_, ?_⟩
  · show (if (m : Int) < 0 then [] else r.take (m : Int).toNat) = _
    rw [if_neg h0, e]
  · show (if (m : Int) < 0 then (1 : Int) else 0) = 0
    rw [if_neg h0]
  · show (if (m : Int) < 0 then shS r at' y else setWh (shS r at' y) 0 (.tape (r.drop (m : Int).toNat))) = _
    rw [if_neg h0, e]
    rfl
theorem sh_wrt {r d : List UInt8} {y : Nd} {k : Nat} (hk : k < 2) (h1 : y.kind = 1) (hd : (datOf y).length + d.length ≤ 4096) {N E : Int} {A' : AS} (h : WrtA (shS r ((datOf y).length : Int) y) 64 k 1 d N E A') : N = (d.length : Int) ∧ E = 0 ∧ ∃ z, z.kind = 1 ∧ datOf z = datOf y ++ d ∧ A' = shS r ((datOf z).length : Int) z := by
  have hn : numL (row (shS r ((datOf y).length : Int) y) k) 1 = some 1 := by
    match k, hk with
    | 0, _ => rfl
    | 1, _ => rfl
  have hy : y.size = (datOf y).length := (datOf_len y).symm
  cases h with
  | no h => rw [hn] at h; cases h
  | via i t N E A' h2 h3 h4 =>
    rw [hn] at h2
    injection h2 with h2
    subst h2
    have e2 : (shS r ((datOf y).length : Int) y).th[1]? = some ⟨.file ⟨false, 2, ((datOf y).length : Int), 10⟩, 2⟩ := rfl
    rw [e2] at h3
    injection h3 with h3
    subst h3
    cases h4 with
    | file x N E s' x' h =>
      have hA : xwrA (oneS R9s LA parA y) ⟨false, 2, ((datOf y).length : Int), 10⟩ = (y.size : Int) := one_xwrA h1 rfl (.inr (by rw [hy]))
      rcases h with ⟨h6, _⟩ | ⟨_, N1, h6, h7, h8⟩
      · exact absurd (refu_ok (x := ⟨false, 2, ((datOf y).length : Int), 10⟩) (k := 2) rfl has10.2.2.1) h6
      · rw [show (shS r ((datOf y).length : Int) y).s = oneS R9s LA parA y from rfl, hA] at h6 h8
        obtain ⟨g1, g2, z, g3, g4, g5, g6, g7⟩ := one_write first9.used h1 (by omega) h6
        subst g1 g2 g3
        rw [if_pos rfl] at h7 h8
        subst h7 h8
        refine ⟨rfl, rfl, z, g4, g7, ?_⟩
        rw [g7, List.length_append]
        show (⟨_, _, _, _, _⟩ : AS) = ⟨_, _, _, _, _⟩
        rw [hy]
        rfl
theorem sh_walk (y : Nd) (h : y.kind = 1) : walkN (oneS R9s LA parA y) 1 [97] true = (2, 0) := fo_walk1 R9s parA y h

/-- Where the law's loop is. -/
def ShSt (w0 wr : World) (f x s c : Nat) (got r : List UInt8) (n : Nat) : Prop := ∃ q Z H L y, FH wr f q Z (shS r (got.length : Int) y) 64 n (Bas.of w0) x [s, c] H L ∧ AOk (shS r (got.length : Int) y) n ∧ y.kind = 1 ∧ datOf y = got
theorem sh_row {r : List UInt8} {a : Int} {y : Nd} {k : Nat} (hk : k < 2) : (shS r a y).st[k]? = some rwS := by
  match k, hk with
  | 0, _ => rfl
  | 1, _ => rfl
theorem ShSt.read {w0 wr : World} {f x s c n : Nat} {got r : List UInt8} (H : ShSt w0 wr f x s c got r n) {k b : Nat} (hk : k < 2) (hb : [s, c][k]? = some b) (m : Nat) : Calls Tryz.prog 18 #[.pointer (some ⟨b, 0, none⟩), .int .i64 0, .int .i64 (m : Int)] wr fun e w' => e = .returned (.tuple #[.string (BA (r.take m)), .int .i64 0]) ∧ Hid (ShSt w0 w' f x s c got (r.drop m) n) := by
  obtain ⟨q, Z, H, L, y, F, K, h1, h2⟩ := H
  have := sread_any F hb (sh_row hk) K 0 (m : Int)
  obtain ⟨e1, e2, e3⟩ := sh_red r (got.length : Int) y hk m
  rw [e1, e2, e3] at this
  refine this.mono (fun e w' h => ⟨h.1, hide ?_⟩)
  obtain ⟨H', F', K'⟩ := unhide h.2
  exact ⟨q, Z, H', L, y, F', K', h1, h2⟩
theorem ShSt.write {w0 wr : World} {f x s c n : Nat} {got r : List UInt8} (H : ShSt w0 wr f x s c got r n) {k b : Nat} (hk : k < 2) (hb : [s, c][k]? = some b) (hn : n ≤ 8000) (d : List UInt8) (hd : got.length + d.length ≤ 4096) : Calls Tryz.prog 19 #[.pointer (some ⟨b, 0, none⟩), .int .i64 1, .string (BA d)] wr fun e w' => e = .returned (.tuple #[.int .i64 (d.length : Int), .int .i64 0]) ∧ Hid (ShSt w0 w' f x s c (got ++ d) r (n + 1)) := by
  obtain ⟨q, Z, H, L, y, F, K, h1, h2⟩ := H
  subst h2
  refine (swrite_any F hb (sh_row hk) K (by omega) 1 d (by omega)).mono (fun e w' h => ?_)
  obtain ⟨N, E, e1, e2⟩ := h
  obtain ⟨A', H', e3, F', K'⟩ := unhide e2
  obtain ⟨rfl, rfl, z, z1, z2, rfl⟩ := sh_wrt hk h1 hd e3
  refine ⟨e1, hide ⟨q, Z, H', L, z, ?_, ?_, z1, z2⟩⟩
  · rw [← z2]; exact F'
  · rw [← z2]; exact K'
theorem ShSt.below {w0 wr w' : World} {f x s c n : Nat} {got r : List UInt8} (H : ShSt w0 wr f x s c got r n) (hb : Below wr.heap.size wr w') : ShSt w0 w' f x s c got r n := by
  obtain ⟨q, Z, H, L, y, F, K, h1, h2⟩ := H
  exact ⟨q, Z, H, L, y, F.below hb, K, h1, h2⟩
theorem ShSt.env {w0 wr : World} {f x s c n : Nat} {got r : List UInt8} (H : ShSt w0 wr f x s c got r n) : EnvB wr (Bas.of w0) := by
  obtain ⟨q, Z, H, L, y, F, K, h1, h2⟩ := H
  exact F.mx.env
theorem ShSt.walk {w0 wr : World} {f x s c n : Nat} {got r : List UInt8} (H : ShSt w0 wr f x s c got r n) : Calls Tryz.prog 20 #[.pointer (some ⟨f, 0, none⟩), .int .i64 1, .string ⟨#[97]⟩, .bool true] wr fun e w' => e = .returned (.tuple #[.int .i64 2, .int .i64 0]) ∧ Hid (ShSt w0 w' f x s c got r n) := by
  have HH := H
  obtain ⟨q, Z, H, L, y, F, K, h1, h2⟩ := H
  have := walk_any F.mx.fx 1 [97] true (by decide) (by decide)
  rw [show (shS r (got.length : Int) y).s = oneS R9s LA parA y from rfl, sh_walk y h1] at this
  exact this.mono (fun e w' h => ⟨h.1, hide (HH.below h.2)⟩)
theorem ShSt.get {w0 wr : World} {f x s c n : Nat} {got r : List UInt8} (H : ShSt w0 wr f x s c got r n) (hl : got.length ≤ 4096) : Calls Tryz.prog 21 #[.pointer (some ⟨f, 0, none⟩), .int .i64 2, .int .i64 0, .int .i64 4096] wr fun e w' => e = .returned (.tuple #[.string (BA got), .int .i64 0]) ∧ Hid (EnvB w' (Bas.of w0)) := by
  obtain ⟨q, Z, H, L, y, F, K, h1, h2⟩ := H
  subst h2
  obtain ⟨o1, o2⟩ := one_read (R := R9s) (L := LA) (par := parA) h1 (a := 0) (m := 4096)
  refine (fread_any F.mx.fx 2 0 4096 (by decide) (by decide)).mono (fun e w' h => ?_)
  obtain ⟨e1, e2⟩ := h
  refine ⟨e1.trans ?_, hide (F.mx.env.below e2)⟩
  have o3 : nrdT (oneS R9s LA parA y) 2 0 4096 = datOf y := o2.trans (by
    rw [if_neg (by decide)]
    exact List.take_of_length_le (by show (datOf y).length ≤ 4096; exact hl))
  have o4 : nrdE (oneS R9s LA parA y) 2 0 4096 = 0 := o1
  rw [show (shS r ((datOf y).length : Int) y).s = oneS R9s LA parA y from rfl, o3, o4]
set_option maxRecDepth 20000 in
set_option maxHeartbeats 8000000 in
theorem fdsshare_walk (u : Value) (t : List UInt8) (I : List Int) (w : World) (E : EnvB w (Bas.of w)) (hI : IRow w u I) : Calls Tryz.prog 4 #[.string (BA t), u] w fun e w' => e = .returned (.bool true) ∧ Below w.heap.size w w' := by
  obtain ⟨ad, cap, rfl, hrow⟩ := hI
  have HA : Hid (∀ W, EnvB W (Bas.of w) → Calls Tryz.prog 8 #[] W fun e w' => e = .returned (.bool true) ∧ Below w.heap.size w w') := hide (fun W hW => (awake16_any W hW.self).mono (fun e w' h => ⟨h.1, hW.bel.trans (h.2.mono hW.bel.size)⟩))
  have HB := hide (begun_any 9 64 w E (by decide) (by decide) (by decide) (by decide))
  have HROW := hide hrow
  obtain ⟨T, hT⟩ : ∃ T, T = BA t := ⟨_, rfl⟩
  obtain ⟨lt, hlt⟩ : ∃ lt, lt = t.length := ⟨_, rfl⟩
  have hTs : T.size = lt := by rw [hT, hlt]; rfl
  have HT := hide hT
  have HLT := hide hlt
  obtain ⟨N, hN⟩ : ∃ N, N = I.length := ⟨_, rfl⟩
  rw [← hT, ← hN]
  have HN := hide hN
  clear hrow E hT hlt hN
  go_enter Tryz.func4, Tryz.ntmps4
  go_wp2_with fail
  refine (unhide HB).mono ?_
  rintro e w1 ⟨f, x, s, rfl, h1⟩
  by_cases hbig : (500 : Int) < (lt : Int) ∨ (50 : Int) < (N : Int)
  · have HAW := hide (unhide HA w1 (by obtain ⟨q, Z, H, L, F⟩ := unhide h1; exact F.mx.env))
    clear HB h1 HA HROW
    by_cases hb1 : (500 : Int) < (lt : Int)
    · clear hbig
      go_wp2_with fail
      refine (unhide HAW).mono ?_
      rintro e w2 ⟨rfl, hw⟩
      have H2 := hide hw
      clear hw HAW
      go_wp2_with fail
      go_ret
      exact ⟨rfl, unhide H2⟩
    · have hb2 : (50 : Int) < (N : Int) := by omega
      clear hbig
      go_wp2_with fail
      refine (unhide HAW).mono ?_
      rintro e w2 ⟨rfl, hw⟩
      have H2 := hide hw
      clear hw HAW
      go_wp2_with fail
      go_ret
      exact ⟨rfl, unhide H2⟩
  have hb1 : ¬ (500 : Int) < (lt : Int) := by omega
  have hb2 : ¬ (50 : Int) < (N : Int) := by omega
  clear hbig
  have hlt5 : lt ≤ 500 := by omega
  have hN5 : N ≤ 50 := by omega
  have HTP : Hid (Calls Tryz.prog 16 #[.pointer (some ⟨s, 0, none⟩), .int .i64 0, .string T] w1 fun e w' => e = .returned (.int .i64 0) ∧ Hid (∃ n q Z H L, FH w' f q Z (sh1 (rootS 9) t) 64 n (Bas.of w) x [s] H L ∧ AOk (sh1 (rootS 9) t) n ∧ n = 3)) := hide (by
    obtain ⟨q, Z, H, L, F⟩ := unhide h1
    have := stape_any F (k := 0) rfl rfl (ok_nwSt (ok_0 _ 1)) (by decide) 0 t (by rw [← unhide HLT]; omega)
    rw [sh_tap, sh_tapE, ← unhide HT] at this
    refine this.mono (fun e w' h => ⟨h.1, hide ?_⟩)
    obtain ⟨H', L', F', K'⟩ := unhide h.2
    exact ⟨3, q, Z, H', L', F', K', rfl⟩)
  clear h1 HB
  go_wp2_with fail
  refine (unhide HTP).mono ?_
  rintro e w2 ⟨rfl, h2⟩
  have HOP : Hid (Calls Tryz.prog 17 #[.pointer (some ⟨s, 0, none⟩), .int .i64 1, .string ⟨#[97]⟩, .int .i64 10] w2 fun e w' => e = .returned (.tuple #[.int .i64 1, .int .i64 0]) ∧ Hid (∃ n q Z H L, FH w' f q Z (sh2 t) 64 n (Bas.of w) x [s] H L ∧ AOk (sh2 t) n ∧ n = 8)) := hide (by
    obtain ⟨n, q, Z, H, L, F, K, rfl⟩ := unhide h2
    refine (sopen_any F (k := 0) rfl rfl K (by decide) 1 [97] 10 (by decide) (by decide)).mono (fun e w' h => ?_)
    obtain ⟨N, E, e1, e2⟩ := h
    obtain ⟨A', H', L', e3, F', K'⟩ := unhide e2
    obtain ⟨rfl, rfl, rfl⟩ := sh_opn e3
    exact ⟨e1, hide ⟨8, q, Z, H', L', F', K', rfl⟩⟩)
  clear h2 HTP
  go_wp2_with fail
  refine (unhide HOP).mono ?_
  rintro e w3 ⟨rfl, h3⟩
  have HFK : Hid (Calls Tryz.prog 9 #[.pointer (some ⟨s, 0, none⟩)] w3 fun e w' => e = .returned (.pointer (some ⟨w3.heap.size, 0, none⟩)) ∧ Hid (ShSt w w' f x s w3.heap.size [] t 24)) := hide (by
    obtain ⟨n, q, Z, H, L, F, K, rfl⟩ := unhide h3
    have := sfork_any F (k := 0) rfl rfl K (by decide)
    rw [sh_frk] at this
    refine this.mono (fun e w' h => ⟨h.1, hide ?_⟩)
    obtain ⟨⟨H', F'⟩, K'⟩ := unhide h.2
    exact ⟨q, Z, H', L, ndA 1, F', K', rfl, rfl⟩)
  obtain ⟨c, hc⟩ : ∃ c, c = w3.heap.size := ⟨_, rfl⟩
  rw [← hc] at HFK
  clear h3 HOP hc
  go_wp2_with fail
  refine (unhide HFK).mono ?_
  rintro e w4 ⟨rfl, h4⟩
  clear HFK
  go_wp2_with fail
  go_loopw [11, 12] (fun v u wr => ∃ (j : Nat) (got r : List UInt8), u = .int .i64 (j : Int) ∧ j ≤ N ∧ v = .string (BA got) ∧ got ++ r = t ∧ Hid (ShSt w wr f x s c got r (24 + j))) (fun _ u _ => N + 1 - (intOf u).toNat)
  case atStart => exact ⟨0, [], t, rfl, Nat.zero_le _, rfl, rfl, h4⟩
  case round =>
    clear h4
    obtain ⟨j, got, r, rfl, hj, rfl, hgr, HS⟩ := hrel
    have hgl : got.length ≤ 500 := by
      have := congrArg List.length hgr
      rw [List.length_append, ← unhide HLT] at this
      omega
    by_cases hlt : j < N
    · have h1 : (j : Int) < (N : Int) := by omega
      have h0 : (0 : Int) ≤ (j : Int) := by omega
      obtain ⟨y, hy⟩ : ∃ y, I[j]? = some y := ⟨_, List.getElem?_eq_getElem (by rw [← unhide HN]; exact hlt)⟩
      obtain ⟨⟨g, o, had, hg, hcell⟩, hyr⟩ := unhide HROW j y hy
      have q0 : wr.cell? ⟨g, o + j, none⟩ = some (.int .i64 y) := ((unhide HS).env.bel.cell (p := ⟨g, o + j, none⟩) hg).trans hcell
      subst had
      obtain ⟨p, hp⟩ : ∃ p : Int, max y 0 = p := ⟨_, rfl⟩
      obtain ⟨m, hm⟩ : ∃ m : Nat, min p 50 = (m : Int) := ⟨(min p 50).toNat, by omega⟩
      obtain ⟨d, hd⟩ : ∃ d, d = r.take m := ⟨_, rfl⟩
      obtain ⟨D, hD⟩ : ∃ D, D = BA d := ⟨_, rfl⟩
      obtain ⟨ld, hld⟩ : ∃ ld, ld = d.length := ⟨_, rfl⟩
      have hDs : D.size = ld := by rw [hD, hld]; rfl
      have hdl : d.length ≤ 500 := by
        have := congrArg List.length hgr
        rw [List.length_append, ← unhide HLT] at this
        rw [hd, List.length_take]
        omega
      have hgr2 : got ++ d ++ r.drop m = t := by rw [hd, List.append_assoc, List.take_append_drop]; exact hgr
      have HRD : Hid (∀ k b, k < 2 → [s, c][k]? = some b → Calls Tryz.prog 18 #[.pointer (some ⟨b, 0, none⟩), .int .i64 0, .int .i64 (m : Int)] wr fun e w' => e = .returned (.tuple #[.string D, .int .i64 0]) ∧ Hid (ShSt w w' f x s c got (r.drop m) (24 + j))) := hide (fun k b hk hb => by
        have := (unhide HS).read hk hb m
        rw [← hd, ← hD] at this
        exact this)
      have HWR : Hid (∀ W k b, k < 2 → [s, c][k]? = some b → ShSt w W f x s c got (r.drop m) (24 + j) → Calls Tryz.prog 19 #[.pointer (some ⟨b, 0, none⟩), .int .i64 1, .string D] W fun e w' => e = .returned (.tuple #[.int .i64 (ld : Int), .int .i64 0]) ∧ Hid (ShSt w w' f x s c (got ++ d) (r.drop m) (24 + (j + 1)))) := hide (fun W k b hk hb h => by
        have := h.write hk hb (by omega) d (by omega)
        rw [← hD, ← hld] at this
        exact this)
      have HAP : Hid (BA got ++ D = BA (got ++ d)) := hide (by rw [hD]; exact Pi.BA_add got d)
      obtain ⟨G, hG⟩ : ∃ G, G = BA got := ⟨_, rfl⟩
      have hGs : G.size ≤ 500 := by rw [hG]; exact hgl
      have hDs2 : ld ≤ 500 := by omega
      rw [← hG] at HAP ⊢
      clear HS hy hg hcell hyr hd hD hld hdl hgr hgl hG HROW
      have hq : ((y.tmod 2) != 0) = true ∨ ((y.tmod 2) != 0) = false := by cases ((y.tmod 2) != 0) <;> simp
      rcases hq with hq | hq
      · have HC1 := hide (unhide HRD 1 c (by decide) rfl)
        clear HRD
        go_wp2_with fail
        refine (unhide HC1).mono ?_
        rintro e w5 ⟨rfl, h5⟩
        have HC2 := hide (unhide HWR w5 1 c (by decide) rfl (unhide h5))
        clear HC1 HWR h5 q0
        go_wp2_with fail
        refine (unhide HC2).mono ?_
        rintro e w6 ⟨rfl, h6⟩
        clear HC2
        go_wp2_with fail
        go_roundw
        case rel => exact ⟨j + 1, got ++ d, r.drop m, by go_num, by omega, by rw [unhide HAP], hgr2, h6⟩
        case measure => simp [intOf]; omega
      · have HC1 := hide (unhide HRD 0 s (by decide) rfl)
        clear HRD
        go_wp2_with fail
        refine (unhide HC1).mono ?_
        rintro e w5 ⟨rfl, h5⟩
        have HC2 := hide (unhide HWR w5 0 s (by decide) rfl (unhide h5))
        clear HC1 HWR h5 q0
        go_wp2_with fail
        refine (unhide HC2).mono ?_
        rintro e w6 ⟨rfl, h6⟩
        clear HC2
        go_wp2_with fail
        go_roundw
        case rel => exact ⟨j + 1, got ++ d, r.drop m, by go_num, by omega, by rw [unhide HAP], hgr2, h6⟩
        case measure => simp [intOf]; omega
    · have h1 : ¬ (j : Int) < (N : Int) := by omega
      have HWK := hide (unhide HS).walk
      have HGT : Hid (∀ W, ShSt w W f x s c got r (24 + j) → Calls Tryz.prog 21 #[.pointer (some ⟨f, 0, none⟩), .int .i64 2, .int .i64 0, .int .i64 4096] W fun e w' => e = .returned (.tuple #[.string (BA got), .int .i64 0]) ∧ Hid (EnvB w' (Bas.of w))) := hide (fun W h => h.get (by omega))
      obtain ⟨M, hM⟩ : ∃ M, M = BA got := ⟨_, rfl⟩
      obtain ⟨lg, hlg⟩ : ∃ lg, lg = got.length := ⟨_, rfl⟩
      have hMs : M.size = lg := by rw [hM, hlg]; rfl
      have hcut : T.extract 0 lg = M := by
        rw [unhide HT, hM, hlg, Pi.ext_take, ← hgr, List.take_left]
      have hlg2 : lg ≤ lt := by
        have := congrArg List.length hgr
        rw [List.length_append, ← unhide HLT] at this
        omega
      rw [← hM] at HGT ⊢
      have hlgi : (lg : Int) ≤ (lt : Int) := by omega
      have hlg0 : (0 : Int) ≤ (lg : Int) := by omega
      clear HS HROW hgr hgl hM hlg
      go_wp2_with fail
      refine (unhide HWK).mono ?_
      rintro e w5 ⟨rfl, h5⟩
      have HG2 := hide (unhide HGT w5 (unhide h5))
      clear HWK HGT h5
      go_wp2_with fail
      refine (unhide HG2).mono ?_
      rintro e w6 ⟨rfl, h6⟩
      have HAW := hide (unhide HA w6 (unhide h6))
      clear HG2 h6 HA
      go_wp2_with fail
      refine (unhide HAW).mono ?_
      rintro e w7 ⟨rfl, hw⟩
      have H7 := hide hw
      clear hw HAW
      go_wp2_with fail
      go_ret
      exact ⟨rfl, unhide H7⟩

end Go.Proofs.YtemologkibcdoaaGreatDoor

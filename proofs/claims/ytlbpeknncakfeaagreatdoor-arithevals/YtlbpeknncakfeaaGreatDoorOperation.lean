/-
  The reader's 'operation' on what is read below it.
-/
import Derived.Test.YtlbpeknncakfeaaGreatDoorOperand
import Derived.Deep.RegionHeld3
namespace Go.Proofs.YtlbpeknncakfeaaGreatDoor
open Go.RowKit Go.Maps
attribute [local irreducible] findOp findSign

/-- How much is left to be read. -/
def restN (w : World) (rb : Nat) : Nat := match w.cell? ⟨rb, 2, none⟩ with
  | some (.string s) => s.size
  | _ => 0
theorem Rd.restN {w : World} {rb b1 b2 : Nat} {l : List UInt8} {f : Bool} (h : Rd w rb b1 b2 l f) : restN w rb = l.length := by
  unfold Proofs.YtlbpeknncakfeaaGreatDoor.restN
  rw [h.c2]
  rfl

/-- What holds ahead of each round of 'operation'. -/
structure LoopI (w : World) (rb b1 b2 k n : Nat) (R : Option (E × List UInt8)) (v : Value) (wr : World) : Prop where
  fn : FnV v
  grown : w.grownBy wr (some rb)
  glob : Glob wr
  st : (∃ j x r, R = pLoop j n x r ∧ 5 * r.length + 2 ≤ j ∧ j ≤ k ∧ Rd wr rb b1 b2 r false ∧ ∀ lo, rb < lo → lo ≤ w.heap.size → Rep lo wr.heap.size wr x v) ∨ (R = none ∧ Rd wr rb b1 b2 [] true)

theorem rank_le {s : List UInt8} {o : Opr} (h : findOp s = some o) : OprOk o ∧ 0 < o.rank ∧ o.rank ≤ 10 := by
  have h2 : o ∈ opsT.map (·.2) := by unfold findOp at h; exact lookR_mem h
  have h3 : ∀ x ∈ opsT.map (·.2), 0 < x.rank ∧ x.rank ≤ 10 := by decide
  exact ⟨h2, h3 o h2⟩
theorem hasPrefix_take (l : List UInt8) (m : Nat) : Lib.hasPrefix l (l.take m) = true := List.isPrefixOf_iff_prefix.2 (List.take_prefix m l)
theorem trimPrefix_take (l : List UInt8) (m : Nat) (h : m ≤ l.length) : Lib.trimPrefix l (l.take m) = l.drop m := by
  unfold Lib.trimPrefix
  rw [hasPrefix_take, if_pos rfl, List.length_take, Nat.min_eq_left h]

set_option maxRecDepth 20000 in
set_option maxHeartbeats 4000000 in
theorem op_step (k : Nat) (iR : CR k) (iO : ∀ j, j < k → CO j) : CO (k + 1) := by
  intro n rb b1 b2 l w h hg hn0 hn1 hk
  have hrb := h.blk.lt
  have hlen := h.len
  have hop := iR rb b1 b2 l w h hg (by omega)
  have IO := hide iO
  obtain ⟨R, hR⟩ : ∃ R, R = pOp (k + 1) n l := ⟨_, rfl⟩
  have HR0 : Hid (R = match pOperand k l with | none => none | some (x, r) => pLoop k n x r) := hide (by rw [hR, pOp]; rfl)
  rw [← hR]
  have HOP := hide hop
  have H := hide h
  have HG := hide hg
  clear iR iO hop hR h hg
  go_enter Tryz.func109, Tryz.ntmps109
  go_wp2_with fail
  refine (unhide HOP).mono ?_
  rintro e w1 ⟨v, rfl, hv, g1, h1⟩
  have hI : LoopI w rb b1 b2 k n R v w1 := by
    refine ⟨hv, g1, (unhide HG).rd (unhide H) g1, ?_⟩
    have hr0 := unhide HR0
    rcases hpp : pOperand k l with _ | ⟨x, r⟩
    · rw [hpp] at h1 hr0
      exact .inr ⟨hr0, h1⟩
    · rw [hpp] at h1 hr0
      have := (p_len k).2.2.2.2 _ _ _ hpp
      exact .inl ⟨k, x, r, hr0, by omega, Nat.le_refl _, h1.1, h1.2⟩
  have HI := hide hI
  clear hI h1 g1 hv HOP H HG HR0
  go_wp2_with fail
  go_loopw [5] (fun v wr => Hid (LoopI w rb b1 b2 k n R v wr)) (fun _ wr => restN wr rb)
  case atStart => exact HI
  case round =>
    obtain ⟨hfn, hgr, hgl, hst⟩ := unhide hrel
    have HGR := hide hgr
    have HGL := hide hgl
    clear hrel hgr hgl HI
    rcases hst with ⟨j, x, r, hR, hj, hjk, hRd, hRep⟩ | ⟨hR, hRd⟩
    · obtain ⟨j, rfl⟩ : ∃ i, j = i + 1 := ⟨j - 1, by omega⟩
      rw [pLoop] at hR
      have hsl := sk_len r
      have hrl := hRd.len
      have HO := hide (operator_any rb b1 b2 r false wr hRd)
      have HRD := hide hRd
      have HRep := hide hRep
      clear hRd hRep
      rcases hat : opAt (sk r) with _ | ⟨o, m⟩
      · rw [hat] at hR
        have HR := hide hR
        have HO2 : Hid (Calls Tryz.prog 131 #[.pointer (some ⟨rb, 0, none⟩)] wr fun e w' => e = .returned (.tuple #[.agg #[.int .i64 0, .nilFunc, .nilFunc, .bool false], .string (BA [])]) ∧ Rd w' rb b1 b2 (sk r) false ∧ wr.grownBy w' (some rb)) := hide (by
          have := unhide HO
          unfold opEnd at this
          rw [hat] at this
          exact this)
        clear hR hat HO
        have HO := HO2
        clear HO2
        go_wp2_with fail
        refine (unhide HO).mono ?_
        rintro e w2 ⟨he, h2, g2⟩
        have he2 : e = .returned (.tuple #[.agg #[.int .i64 0, .nilFunc, .nilFunc, .bool false], .string (BA [])]) := he
        subst he2
        clear he
        have H2 := hide h2
        have G2 := hide g2
        clear h2 g2
        have hn0' : (0 : Int) < (n : Int) := by omega
        go_wp2
        go_ret
        have ga := World.grownBy_alloc w2 (.cells #[.int .i64 0, .nilFunc, .nilFunc, .bool false] 101) none
        refine ⟨u5, rfl, hfn, (unhide HGR).trans ((unhide G2).trans (grown_but ga _)), ?_⟩
        rw [unhide HR]
        exact ⟨(unhide H2).kept ga, fun lo x1 x2 => ((unhide HRep lo x1 x2).grown (unhide G2) x1).grown0 ga⟩
      · have hal := opAt_le hat
        have hrk := rank_le hal.2.2
        obtain ⟨ev, hev⟩ : ∃ ev, enoughV o.enough = ev := ⟨_, rfl⟩
        have hevc : ev = .nilFunc ∨ ∃ kk, ev = .func (.func kk) #[] #[] := by rw [← hev]; cases o.enough with
          | none => exact .inl rfl
          | some kk => exact .inr ⟨kk, rfl⟩
        have HEV := hide hev
        have HAT := hide hat
        rw [hat] at hR
        simp only [] at hR
        clear hev hat
        by_cases hlt : o.rank < n
        · rw [if_pos hlt] at hR
          have HR := hide hR
          have hlt' : (o.rank : Int) < (n : Int) := by omega
          clear hR hlt
          rcases hevc with rfl | ⟨kk, rfl⟩
          · go_wp2_with fail
            refine (unhide HO).mono ?_
            rintro e w2 ⟨he, h2, g2⟩
            unfold opEnd at he
            rw [unhide HAT] at he
            have he2 : e = .returned (.tuple #[.agg #[.int .i64 o.rank, .func (.func o.fn) #[] #[], .nilFunc, .bool o.div], .string (BA ((sk r).take m))]) := by rw [he]; simp only [Opr.cells, fnV, unhide HEV]
            subst he2
            clear he
            have H2 := hide h2
            have G2 := hide g2
            clear h2 g2
            go_wp2
            go_ret
            have ga := World.grownBy_alloc w2 (.cells #[.int .i64 o.rank, .func (.func o.fn) #[] #[], .nilFunc, .bool o.div] 101) none
            refine ⟨u5, rfl, hfn, (unhide HGR).trans ((unhide G2).trans (grown_but ga _)), ?_⟩
            rw [unhide HR]
            exact ⟨(unhide H2).kept ga, fun lo x1 x2 => ((unhide HRep lo x1 x2).grown (unhide G2) x1).grown0 ga⟩
          · go_wp2_with fail
            refine (unhide HO).mono ?_
            rintro e w2 ⟨he, h2, g2⟩
            unfold opEnd at he
            rw [unhide HAT] at he
            have he2 : e = .returned (.tuple #[.agg #[.int .i64 o.rank, .func (.func o.fn) #[] #[], .func (.func kk) #[] #[], .bool o.div], .string (BA ((sk r).take m))]) := by rw [he]; simp only [Opr.cells, fnV, unhide HEV]
            subst he2
            clear he
            have H2 := hide h2
            have G2 := hide g2
            clear h2 g2
            go_wp2
            go_ret
            have ga := World.grownBy_alloc w2 (.cells #[.int .i64 o.rank, .func (.func o.fn) #[] #[], .func (.func kk) #[] #[], .bool o.div] 101) none
            refine ⟨u5, rfl, hfn, (unhide HGR).trans ((unhide G2).trans (grown_but ga _)), ?_⟩
            rw [unhide HR]
            exact ⟨(unhide H2).kept ga, fun lo x1 x2 => ((unhide HRep lo x1 x2).grown (unhide G2) x1).grown0 ga⟩
        · rw [if_neg hlt] at hR
          have HR := hide hR
          have hlt' : ¬ (o.rank : Int) < (n : Int) := by omega
          clear hR hlt
          have HTK : Hid (∀ w', Rd w' rb b1 b2 (sk r) false → Calls Tryz.prog 110 #[.pointer (some ⟨rb, 0, none⟩), .string (BA ((sk r).take m))] w' fun e w'' => e = .returned (.bool true) ∧ Rd w'' rb b1 b2 ((sk r).drop m) false ∧ w'.grownBy w'' (some rb)) := hide (fun w' q => by
            have := take_any (BA ((sk r).take m)) rb b1 b2 (sk r) false w' q
            rw [BA_list, sk_sk, hasPrefix_take, trimPrefix_take _ _ hal.2.1] at this
            exact this)
          have HIO : Hid (∀ l' w', Rd w' rb b1 b2 l' false → Glob w' → 5 * l'.length + 3 ≤ j → Calls Tryz.prog 109 #[.pointer (some ⟨rb, 0, none⟩), .int .i64 ((o.rank : Int) + 1)] w' fun e w'' => PEnd w' rb b1 b2 (pOp j (o.rank + 1) l') e w'') := hide (fun l' w' q1 q2 q3 => by
            have := unhide IO j (by omega) (o.rank + 1) rb b1 b2 l' w' q1 q2 (by omega) (by omega) q3
            rw [show ((o.rank + 1 : Nat) : Int) = (o.rank : Int) + 1 by omega] at this
            exact this)
          rcases hevc with rfl | ⟨kk, rfl⟩
          · go_wp2_with fail
            refine (unhide HO).mono ?_
            rintro e w2 ⟨he, h2, g2⟩
            unfold opEnd at he
            rw [unhide HAT] at he
            have he2 : e = .returned (.tuple #[.agg #[.int .i64 o.rank, .func (.func o.fn) #[] #[], .nilFunc, .bool o.div], .string (BA ((sk r).take m))]) := by rw [he]; simp only [Opr.cells, fnV, unhide HEV]
            subst he2
            clear he
            have H2 := hide h2
            have G2 := hide g2
            clear h2 g2
            have ga := World.grownBy_alloc w2 (.cells #[.int .i64 o.rank, .func (.func o.fn) #[] #[], .nilFunc, .bool o.div] 101) none
            have hX := (unhide H2).kept ga
            have hXb := Blk.new w2 101 #[.int .i64 o.rank, .func (.func o.fn) #[] #[], .nilFunc, .bool o.div]
            have gX := (unhide HGR).trans ((unhide G2).trans (grown_but ga (some rb)))
            have hgX := ((unhide HGL).rd (unhide HRD) (unhide G2)).kept ga
            have hRX : ∀ lo, rb < lo → lo ≤ w.heap.size → Rep lo (w2.alloc (.cells #[.int .i64 o.rank, .func (.func o.fn) #[] #[], .nilFunc, .bool o.div] 101)).heap.size (w2.alloc (.cells #[.int .i64 o.rank, .func (.func o.fn) #[] #[], .nilFunc, .bool o.div] 101)) x u5 := fun lo x1 x2 => ((unhide HRep lo x1 x2).grown (unhide G2) x1).grown0 ga
            have hrl2 : rb < w2.heap.size := Nat.lt_of_lt_of_le (unhide HRD).blk.lt (unhide G2).size
            clear ga
            go_wp2_with fail
            obtain ⟨ob, hob⟩ : ∃ ob, ob = w2.heap.size := ⟨_, rfl⟩
            obtain ⟨X, hXe⟩ : ∃ X, X = w2.alloc (.cells #[.int .i64 o.rank, .func (.func o.fn) #[] #[], .nilFunc, .bool o.div] 101) := ⟨_, rfl⟩
            rw [← hXe] at hX hXb gX hgX hRX ⊢
            rw [← hob] at hXb hrl2 ⊢
            have HX := hide hX
            have HXB := hide hXb
            have GX := hide gX
            have HGX := hide hgX
            have HRX := hide hRX
            clear hX hXb gX hgX hRX hXe hob H2 G2 HRep HO
            refine (unhide HTK X (unhide HX)).mono ?_
            rintro e w3 ⟨rfl, h3, g3⟩
            have hXb3 := (unhide HXB).kept g3 (by simp; omega)
            have q0 : w3.cell? ⟨ob, 0, none⟩ = some (.int .i64 o.rank) := hXb3.cell 0 rfl
            have q1 : w3.cell? ⟨ob, 1, none⟩ = some (.func (.func o.fn) #[] #[]) := hXb3.cell 1 rfl
            have q2 : w3.cell? ⟨ob, 2, none⟩ = some (.nilFunc) := hXb3.cell 2 rfl
            have q3 : w3.cell? ⟨ob, 3, none⟩ = some (.bool o.div) := hXb3.cell 3 rfl
            have HXB3 := hide hXb3
            have HG3 := hide ((unhide HGX).rd (unhide HX) g3)
            have HR3 : Hid (∀ lo, rb < lo → lo ≤ w.heap.size → Rep lo w3.heap.size w3 x u5) := hide (fun lo x1 x2 => (unhide HRX lo x1 x2).grown g3 x1)
            have H3 := hide h3
            have G3 := hide ((unhide GX).trans g3)
            clear hXb3 h3 g3 HX HXB GX HGX HRX HTK
            have hdl : ((sk r).drop m).length + 1 ≤ r.length := by rw [List.length_drop]; omega
            have hwr : IntKind.i64.wrap ((o.rank : Int) + 1) = (o.rank : Int) + 1 := by rw [IntKind.wrap_i64]; omega
            have hcells : o.cells = #[.int .i64 o.rank, .func (.func o.fn) #[] #[], .nilFunc, .bool o.div] := by simp only [Opr.cells, fnV, unhide HEV]
            have HJ : Hid (∀ v4 w4, FnV v4 → Calls Tryz.prog 132 #[.agg #[.int .i64 o.rank, .func (.func o.fn) #[] #[], .nilFunc, .bool o.div], u5, v4] w4 fun e w' => ∃ v, e = .returned v ∧ FnV v ∧ w4.grownBy w' none ∧ ∀ lo x y, lo ≤ w4.heap.size → Rep lo w4.heap.size w4 x u5 → Rep lo w4.heap.size w4 y v4 → Rep lo w'.heap.size w' (.op o x y) v) := hide (fun v4 w4 q => by
              have := joining_any o hrk.1 u5 v4 hfn q w4
              rw [hcells] at this
              exact this)
            clear hcells
            go_wp2_with fail
            go_region_held3 (fun w' => w'.cell? ⟨ob, 0, none⟩ = some (.int .i64 o.rank) ∧ w'.cell? ⟨ob, 1, none⟩ = some (.func (.func o.fn) #[] #[]) ∧ w'.cell? ⟨ob, 2, none⟩ = some (.nilFunc) ∧ w'.cell? ⟨ob, 3, none⟩ = some (.bool o.div)) (go_keep) (first
              | (go_at_call 109
                 refine (unhide HIO ((sk r).drop m) _ ((unhide H3).kept (grown_drew' (World.grownBy.refl w3 none))) ((unhide HG3).kept (grown_drew' (World.grownBy.refl w3 none))) (by omega)).mono ?_
                 rintro e w4 ⟨v4, rfl, hv4, g4, h4⟩
                 have hXb4 := ((unhide HXB3).kept (grown_drew' (World.grownBy.refl w3 none)) (by simp)).kept g4 (by simp; omega)
                 have y0 : w4.cell? ⟨ob, 0, none⟩ = some (.int .i64 o.rank) := hXb4.cell 0 rfl
                 have y1 : w4.cell? ⟨ob, 1, none⟩ = some (.func (.func o.fn) #[] #[]) := hXb4.cell 1 rfl
                 have y2 : w4.cell? ⟨ob, 2, none⟩ = some (.nilFunc) := hXb4.cell 2 rfl
                 have y3 : w4.cell? ⟨ob, 3, none⟩ = some (.bool o.div) := hXb4.cell 3 rfl
                 have HXB4 := hide hXb4
                 have G4 := hide g4
                 have H4 := hide h4
                 clear hXb4 g4 h4)
              | (go_at_call 132
                 refine (unhide HJ v4 w4 hv4).mono ?_
                 rintro e w5 ⟨v5, rfl, hv5, g5, h5⟩
                 have hXb5 := (unhide HXB4).kept g5 (by simp)
                 have z0 : w5.cell? ⟨ob, 0, none⟩ = some (.int .i64 o.rank) := hXb5.cell 0 rfl
                 have z1 : w5.cell? ⟨ob, 1, none⟩ = some (.func (.func o.fn) #[] #[]) := hXb5.cell 1 rfl
                 have z2 : w5.cell? ⟨ob, 2, none⟩ = some (.nilFunc) := hXb5.cell 2 rfl
                 have z3 : w5.cell? ⟨ob, 3, none⟩ = some (.bool o.div) := hXb5.cell 3 rfl
                 have G5 := hide g5
                 have H5 := hide h5
                 clear hXb5 g5 h5))
            go_wp2
            refine ⟨?_, ?_⟩
            · have gd := grown_drew' (World.grownBy.refl w3 none)
              have g34 := (grown_but gd (some rb)).trans (unhide G4)
              refine hide ⟨hv5, (unhide G3).trans (g34.trans (grown_but (unhide G5) _)), (((unhide HG3).kept gd).rd ((unhide H3).kept gd) (unhide G4)).kept (unhide G5), ?_⟩
              have hr := unhide HR
              have h4 := unhide H4
              rcases hpp : pOp j (o.rank + 1) ((sk r).drop m) with _ | ⟨y, r'⟩
              · rw [hpp] at hr h4
                exact .inr ⟨hr, h4.kept (unhide G5)⟩
              · rw [hpp] at hr h4
                have hl4 := (p_len j).2.2.1 _ _ _ _ hpp
                refine .inl ⟨j, .op o x y, r', hr, by omega, by omega, h4.1.kept (unhide G5), fun lo x1 x2 => ?_⟩
                have s3 := Nat.le_trans x2 (unhide G3).size
                exact unhide H5 lo x y (Nat.le_trans s3 g34.size) ((unhide HR3 lo x1 x2).grown g34 x1) (h4.2 lo x1 s3)
            · have gd := grown_drew' (World.grownBy.refl w3 none)
              have h4 := unhide H4
              have e0 := (unhide HRD).restN
              rcases hpp : pOp j (o.rank + 1) ((sk r).drop m) with _ | ⟨y, r'⟩
              · rw [hpp] at h4
                have e1 := (h4.kept (unhide G5)).restN
                rw [e0, e1, List.length_nil]
                omega
              · rw [hpp] at h4
                have hl4 := (p_len j).2.2.1 _ _ _ _ hpp
                have e1 := (h4.1.kept (unhide G5)).restN
                rw [e0, e1]
                omega
          · go_wp2_with fail
            refine (unhide HO).mono ?_
            rintro e w2 ⟨he, h2, g2⟩
            unfold opEnd at he
            rw [unhide HAT] at he
            have he2 : e = .returned (.tuple #[.agg #[.int .i64 o.rank, .func (.func o.fn) #[] #[], .func (.func kk) #[] #[], .bool o.div], .string (BA ((sk r).take m))]) := by rw [he]; simp only [Opr.cells, fnV, unhide HEV]
            subst he2
            clear he
            have H2 := hide h2
            have G2 := hide g2
            clear h2 g2
            have ga := World.grownBy_alloc w2 (.cells #[.int .i64 o.rank, .func (.func o.fn) #[] #[], .func (.func kk) #[] #[], .bool o.div] 101) none
            have hX := (unhide H2).kept ga
            have hXb := Blk.new w2 101 #[.int .i64 o.rank, .func (.func o.fn) #[] #[], .func (.func kk) #[] #[], .bool o.div]
            have gX := (unhide HGR).trans ((unhide G2).trans (grown_but ga (some rb)))
            have hgX := ((unhide HGL).rd (unhide HRD) (unhide G2)).kept ga
            have hRX : ∀ lo, rb < lo → lo ≤ w.heap.size → Rep lo (w2.alloc (.cells #[.int .i64 o.rank, .func (.func o.fn) #[] #[], .func (.func kk) #[] #[], .bool o.div] 101)).heap.size (w2.alloc (.cells #[.int .i64 o.rank, .func (.func o.fn) #[] #[], .func (.func kk) #[] #[], .bool o.div] 101)) x u5 := fun lo x1 x2 => ((unhide HRep lo x1 x2).grown (unhide G2) x1).grown0 ga
            have hrl2 : rb < w2.heap.size := Nat.lt_of_lt_of_le (unhide HRD).blk.lt (unhide G2).size
            clear ga
            go_wp2_with fail
            obtain ⟨ob, hob⟩ : ∃ ob, ob = w2.heap.size := ⟨_, rfl⟩
            obtain ⟨X, hXe⟩ : ∃ X, X = w2.alloc (.cells #[.int .i64 o.rank, .func (.func o.fn) #[] #[], .func (.func kk) #[] #[], .bool o.div] 101) := ⟨_, rfl⟩
            rw [← hXe] at hX hXb gX hgX hRX ⊢
            rw [← hob] at hXb hrl2 ⊢
            have HX := hide hX
            have HXB := hide hXb
            have GX := hide gX
            have HGX := hide hgX
            have HRX := hide hRX
            clear hX hXb gX hgX hRX hXe hob H2 G2 HRep HO
            refine (unhide HTK X (unhide HX)).mono ?_
            rintro e w3 ⟨rfl, h3, g3⟩
            have hXb3 := (unhide HXB).kept g3 (by simp; omega)
            have q0 : w3.cell? ⟨ob, 0, none⟩ = some (.int .i64 o.rank) := hXb3.cell 0 rfl
            have q1 : w3.cell? ⟨ob, 1, none⟩ = some (.func (.func o.fn) #[] #[]) := hXb3.cell 1 rfl
            have q2 : w3.cell? ⟨ob, 2, none⟩ = some (.func (.func kk) #[] #[]) := hXb3.cell 2 rfl
            have q3 : w3.cell? ⟨ob, 3, none⟩ = some (.bool o.div) := hXb3.cell 3 rfl
            have HXB3 := hide hXb3
            have HG3 := hide ((unhide HGX).rd (unhide HX) g3)
            have HR3 : Hid (∀ lo, rb < lo → lo ≤ w.heap.size → Rep lo w3.heap.size w3 x u5) := hide (fun lo x1 x2 => (unhide HRX lo x1 x2).grown g3 x1)
            have H3 := hide h3
            have G3 := hide ((unhide GX).trans g3)
            clear hXb3 h3 g3 HX HXB GX HGX HRX HTK
            have hdl : ((sk r).drop m).length + 1 ≤ r.length := by rw [List.length_drop]; omega
            have hwr : IntKind.i64.wrap ((o.rank : Int) + 1) = (o.rank : Int) + 1 := by rw [IntKind.wrap_i64]; omega
            have hcells : o.cells = #[.int .i64 o.rank, .func (.func o.fn) #[] #[], .func (.func kk) #[] #[], .bool o.div] := by simp only [Opr.cells, fnV, unhide HEV]
            have HJ : Hid (∀ v4 w4, FnV v4 → Calls Tryz.prog 132 #[.agg #[.int .i64 o.rank, .func (.func o.fn) #[] #[], .func (.func kk) #[] #[], .bool o.div], u5, v4] w4 fun e w' => ∃ v, e = .returned v ∧ FnV v ∧ w4.grownBy w' none ∧ ∀ lo x y, lo ≤ w4.heap.size → Rep lo w4.heap.size w4 x u5 → Rep lo w4.heap.size w4 y v4 → Rep lo w'.heap.size w' (.op o x y) v) := hide (fun v4 w4 q => by
              have := joining_any o hrk.1 u5 v4 hfn q w4
              rw [hcells] at this
              exact this)
            clear hcells
            go_wp2_with fail
            go_region_held3 (fun w' => w'.cell? ⟨ob, 0, none⟩ = some (.int .i64 o.rank) ∧ w'.cell? ⟨ob, 1, none⟩ = some (.func (.func o.fn) #[] #[]) ∧ w'.cell? ⟨ob, 2, none⟩ = some (.func (.func kk) #[] #[]) ∧ w'.cell? ⟨ob, 3, none⟩ = some (.bool o.div)) (go_keep) (first
              | (go_at_call 109
                 refine (unhide HIO ((sk r).drop m) _ ((unhide H3).kept (grown_drew' (World.grownBy.refl w3 none))) ((unhide HG3).kept (grown_drew' (World.grownBy.refl w3 none))) (by omega)).mono ?_
                 rintro e w4 ⟨v4, rfl, hv4, g4, h4⟩
                 have hXb4 := ((unhide HXB3).kept (grown_drew' (World.grownBy.refl w3 none)) (by simp)).kept g4 (by simp; omega)
                 have y0 : w4.cell? ⟨ob, 0, none⟩ = some (.int .i64 o.rank) := hXb4.cell 0 rfl
                 have y1 : w4.cell? ⟨ob, 1, none⟩ = some (.func (.func o.fn) #[] #[]) := hXb4.cell 1 rfl
                 have y2 : w4.cell? ⟨ob, 2, none⟩ = some (.func (.func kk) #[] #[]) := hXb4.cell 2 rfl
                 have y3 : w4.cell? ⟨ob, 3, none⟩ = some (.bool o.div) := hXb4.cell 3 rfl
                 have HXB4 := hide hXb4
                 have G4 := hide g4
                 have H4 := hide h4
                 clear hXb4 g4 h4)
              | (go_at_call 132
                 refine (unhide HJ v4 w4 hv4).mono ?_
                 rintro e w5 ⟨v5, rfl, hv5, g5, h5⟩
                 have hXb5 := (unhide HXB4).kept g5 (by simp)
                 have z0 : w5.cell? ⟨ob, 0, none⟩ = some (.int .i64 o.rank) := hXb5.cell 0 rfl
                 have z1 : w5.cell? ⟨ob, 1, none⟩ = some (.func (.func o.fn) #[] #[]) := hXb5.cell 1 rfl
                 have z2 : w5.cell? ⟨ob, 2, none⟩ = some (.func (.func kk) #[] #[]) := hXb5.cell 2 rfl
                 have z3 : w5.cell? ⟨ob, 3, none⟩ = some (.bool o.div) := hXb5.cell 3 rfl
                 have G5 := hide g5
                 have H5 := hide h5
                 clear hXb5 g5 h5))
            go_wp2
            refine ⟨?_, ?_⟩
            · have gd := grown_drew' (World.grownBy.refl w3 none)
              have g34 := (grown_but gd (some rb)).trans (unhide G4)
              refine hide ⟨hv5, (unhide G3).trans (g34.trans (grown_but (unhide G5) _)), (((unhide HG3).kept gd).rd ((unhide H3).kept gd) (unhide G4)).kept (unhide G5), ?_⟩
              have hr := unhide HR
              have h4 := unhide H4
              rcases hpp : pOp j (o.rank + 1) ((sk r).drop m) with _ | ⟨y, r'⟩
              · rw [hpp] at hr h4
                exact .inr ⟨hr, h4.kept (unhide G5)⟩
              · rw [hpp] at hr h4
                have hl4 := (p_len j).2.2.1 _ _ _ _ hpp
                refine .inl ⟨j, .op o x y, r', hr, by omega, by omega, h4.1.kept (unhide G5), fun lo x1 x2 => ?_⟩
                have s3 := Nat.le_trans x2 (unhide G3).size
                exact unhide H5 lo x y (Nat.le_trans s3 g34.size) ((unhide HR3 lo x1 x2).grown g34 x1) (h4.2 lo x1 s3)
            · have gd := grown_drew' (World.grownBy.refl w3 none)
              have h4 := unhide H4
              have e0 := (unhide HRD).restN
              rcases hpp : pOp j (o.rank + 1) ((sk r).drop m) with _ | ⟨y, r'⟩
              · rw [hpp] at h4
                have e1 := (h4.kept (unhide G5)).restN
                rw [e0, e1, List.length_nil]
                omega
              · rw [hpp] at h4
                have hl4 := (p_len j).2.2.1 _ _ _ _ hpp
                have e1 := (h4.1.kept (unhide G5)).restN
                rw [e0, e1]
                omega
    · have HR := hide hR
      have HRD := hide hRd
      have HO : Hid (Calls Tryz.prog 131 #[.pointer (some ⟨rb, 0, none⟩)] wr fun e w' => e = .returned (.tuple #[.agg #[.int .i64 0, .nilFunc, .nilFunc, .bool false], .string (BA [])]) ∧ Rd w' rb b1 b2 [] true ∧ wr.grownBy w' (some rb)) := hide (operator_any rb b1 b2 [] true wr hRd)
      clear hR hRd
      go_wp2_with fail
      refine (unhide HO).mono ?_
      rintro e w2 ⟨he, h2, g2⟩
      have he2 : e = .returned (.tuple #[.agg #[.int .i64 0, .nilFunc, .nilFunc, .bool false], .string (BA [])]) := he
      subst he2
      clear he
      have H2 := hide h2
      have G2 := hide g2
      clear h2 g2
      have hn0' : (0 : Int) < (n : Int) := by omega
      go_wp2
      go_ret
      have ga := World.grownBy_alloc w2 (.cells #[.int .i64 0, .nilFunc, .nilFunc, .bool false] 101) none
      refine ⟨u5, rfl, hfn, (unhide HGR).trans ((unhide G2).trans (grown_but ga _)), ?_⟩
      rw [unhide HR]
      exact (unhide H2).kept ga

end Go.Proofs.YtlbpeknncakfeaaGreatDoor

/-
  NamesTree: the law's own walk over all directories comes through: all are a tree, and each node's names are counted.
-/
import Derived.Test.YtghidcohgkajaaaGreatDoorNTrP
import Derived.Test.YtghidcohgkajaaaGreatDoorNLink
import Derived.Deep.LoopGhost
namespace Go.Proofs.YtghidcohgkajaaaGreatDoor
open Go.RowKit Go.Maps Go.Sort

/-- What the walk asks of a name of a directory. -/
theorem name_all {s : NS} {n : Nat} (K : NOk s n) (hT : s.T.length ≤ 39) {d : Int} {i : Nat} {t : List UInt8} (ht : (inL s.L d)[i]? = some t) : ∃ x kn, (entN s.L d)[i]? = some x ∧ x.name = t ∧ x.dir = d ∧ x ∈ s.L ∧ x.node = ((kn : Nat) : Int) ∧ 1 ≤ kn ∧ kn < 40 ∧ t.length ≤ 32 ∧ walkN s d t false = (((kn : Nat) : Int), 0) := by
  unfold inL at ht
  rw [List.getElem?_map] at ht
  obtain ⟨x, hx, e⟩ := Option.map_eq_some_iff.1 ht
  have hx' : (entN s.L d)[i]? = some x := hx
  have hm := ent_mem.1 (List.mem_of_getElem? hx')
  have hr := there_lt hT (there_nm (NV.node1 K.inv.names hm.1))
  have hk : x.node = ((x.node.toNat : Nat) : Int) := by omega
  refine ⟨x, x.node.toNat, hx', e, hm.2, hm.1, hk, by omega, by omega, by rw [← e]; exact (K.nm x hm.1).len, ?_⟩
  rw [← hk, ← hm.2, ← e]
  exact walk_name K hm.1
theorem cnt_none (L : List Nm) : (fun k : Nat => cntD L [] (k : Int)) = fun _ => 0 := funext (fun k => by simp [cntD])
theorem sen_none : (fun k : Nat => decide ((k : Int) ∈ ([] : List Int))) = fun _ => false := funext (fun k => by simp)
theorem cnt_leads {s : NS} (K : NInv s) {done : List Int} (B : Bfs (nmI s.T) (kdI s.T) s.L done []) : (cntC fun k => cntD s.L done (k : Int)) = ((List.range 40).map (fun k => Value.int .i64 (leadsN s k : Int))).toArray := by
  have e : (fun k : Nat => cntD s.L done (k : Int)) = leadsN s := funext (fun k => by
    unfold cntD leadsN
    refine List.countP_congr (fun x hx => ?_)
    have := B.all K x hx
    simp [this])
  rw [e]
  rfl
theorem inL_len' (L : List Nm) (d : Int) : (inL L d).length = (entN L d).length := by unfold inL entN; rw [List.length_map]
set_option maxRecDepth 100000 in
set_option maxHeartbeats 16000000 in
theorem tree_any (f q : Nat) (Y : Nat → Prop) (nb : Nat) (B : Bas) : TreeAt f q Y nb B := by
  intro W s n H hn hT
  have HFX : Hid (∀ wr, Below W.heap.size W wr → FX wr f q Y s nb n B) := hide (fun wr h => H.below h)
  have HOK := hide H.nd.ok
  have HT := hide hT
  have hm1 := mk_cnt
  have hm2 := mk_sen
  obtain ⟨c, hc⟩ : ∃ c, c = W.heap.size := ⟨_, rfl⟩
  have HC := hide hc
  obtain ⟨W1, hW1⟩ : ∃ W1, W1 = W.alloc (.cells (cntC fun _ => 0) 3) := ⟨_, rfl⟩
  obtain ⟨W2, hW2⟩ : ∃ W2, W2 = W1.alloc (.cells (senC fun _ => false) 4) := ⟨_, rfl⟩
  obtain ⟨W3, hW3⟩ : ∃ W3, W3 = W2.alloc (.cells #[.int .i64 1] 3) := ⟨_, rfl⟩
  have hs1 : W1.heap.size = c + 1 := by rw [hW1, hc]; simp
  have hs2 : W2.heap.size = c + 2 := by rw [hW2]; simp [hs1]
  have b1 : Below W.heap.size W W1 := by rw [hW1]; exact (Below.refl _ W).alloc (Nat.le_refl _) _
  have b2 : Below W1.heap.size W1 W2 := by rw [hW2]; exact (Below.refl _ W1).alloc (Nat.le_refl _) _
  have b3 : Below W2.heap.size W2 W3 := by rw [hW3]; exact (Below.refl _ W2).alloc (Nat.le_refl _) _
  have k1 : Blk W1 c 3 (cntC fun _ => 0) := by rw [hW1, hc]; exact Blk.new W 3 _
  have k2 : Blk W2 (c + 1) 4 (senC fun _ => false) := by rw [hW2, ← hs1]; exact Blk.new W1 4 _
  have hq : Que W3 (.slice (some ⟨c + 2, 0, none⟩) 1 1) [1] (c + 2) := by rw [hW3, ← hs2]; exact Que.start W2 W2.heap.size (Nat.le_refl _)
  have HS0 : Hid (TrS W W3 c s (.slice (some ⟨c + 2, 0, none⟩) 1 1) [] [1]) := hide ⟨(b1.trans (b2.mono b1.size)).trans (b3.mono (b1.trans (b2.mono b1.size)).size), by rw [cnt_none]; exact (k1.below b2 k1.lt).below b3 (k1.below b2 k1.lt).lt, by rw [sen_none]; exact k2.below b3 k2.lt, hq, Bfs.start H.nd.ok.inv⟩
  have HW1 := hide hW1
  have HW2 := hide hW2
  have HW3 := hide hW3
  have HZ1 := hide hs1
  have HZ2 := hide hs2
  clear H hT hc hW1 hW2 hW3 hs1 hs2 b1 b2 b3 k1 k2 hq
  go_enter Tryz.func38, Tryz.ntmps38
  go_upto_region 4 with fail
  rw [← unhide HW1, ← unhide HW2, ← unhide HW3, ← unhide HC]
  obtain ⟨TS, hTS⟩ : ∃ TS : World → Value → List Int → List Int → Prop, TS = fun wr v done todo => TrS W wr c s v done todo := ⟨_, rfl⟩
  have HT1 : Hid (∀ wr v done todo, TS wr v done todo → TrS W wr c s v done todo) := hide (fun wr v done todo h => by rw [hTS] at h; exact h)
  have HT2 : Hid (∀ wr v done todo, TrS W wr c s v done todo → TS wr v done todo) := hide (fun wr v done todo h => by rw [hTS]; exact h)
  have HSS : Hid (TS W3 (.slice (some ⟨c + 2, 0, none⟩) 1 1) [] [1]) := hide (unhide HT2 _ _ _ _ (unhide HS0))
  have hcc : c + 1 + 1 = c + 2 := rfl
  rw [hcc]
  clear hTS HS0 HW1 HW2 HW3 HZ1 HZ2 hm1 hm2 hcc
  go_loopg [6] 40 (fun g v wr => ∃ (done todo : List Int) (ad : Option Addr) (cap : Nat), v = .slice ad todo.length cap ∧ g + done.length = 40 ∧ Hid (TS wr v done todo))
  case atStart => exact ⟨[], [1], _, _, rfl, rfl, HSS⟩
  case round =>
    obtain ⟨done, todo, ad, cap, rfl, hgd, HTR⟩ := hrel
    have hS := unhide HT1 _ _ _ _ (unhide HTR)
    cases todo with
    | nil =>
      have HE : Hid (W.heap.size ≤ c ∧ Blk wr c 3 ((List.range 40).map (fun k => Value.int .i64 (leadsN s k : Int))).toArray ∧ Below W.heap.size W wr) := hide ⟨by rw [unhide HC]; exact Nat.le_refl _, by rw [← cnt_leads (unhide HOK).inv hS.bfs]; exact hS.cnt, hS.bel⟩
      clear hS HTR
      go_wp2_with fail
      go_ret2
      exact ⟨c, rfl, HE⟩
    | cons d todo =>
      have hfew := hS.bfs.few (unhide HT)
      have hdr := hfew.2 d (by simp)
      have hlen : done.length ≤ 38 := by
        have := hfew.1
        rw [List.length_append, List.length_cons] at this
        omega
      have HKD : Hid (kdI s.T d = 2) := hide (hS.bfs.dirs d (by simp)).1
      obtain ⟨dn, rfl⟩ : ∃ dn : Nat, d = (dn : Int) := ⟨d.toNat, by omega⟩
      have hd1 : 1 ≤ dn := by omega
      have hd2 : dn < 40 := by omega
      obtain ⟨b, off, cap', hv, hcap, hcm, c0, hq1, hq2⟩ := hS.que.tail
      injection hv with e1 e2 e3
      subst e1
      subst e3
      have HQ1 := hide hq1
      have HQ2 := hide hq2
      have hnd : ((dn : Int) ∈ done) = False := by
        have := hS.bfs.nodup
        rw [List.nodup_append] at this
        exact eq_false (fun hm => this.2.2 _ hm _ List.mem_cons_self rfl)
      have s0 : wr.cell? ⟨c + 1, dn, none⟩ = some (.bool false) := by
        have := hS.sen.cell dn (sen_get _ hd2)
        simpa [hnd] using this
      have s1 : wr.frozen? ⟨c + 1, dn, none⟩ = false := hS.sen.frozen dn
      have HLS : Hid (∀ v2, Que wr v2 todo (c + 2) → ∀ w2 lv, Below wr.heap.size (wr.setCell ⟨c + 1, dn, none⟩ (.bool true)) w2 → TRow w2 lv (inL s.L (dn : Int)) → TrI W w2 c s v2 done todo (dn : Int) lv 0 0) := hide (fun v2 hq w2 lv hb hr => hS.head (by rw [unhide HC]; exact Nat.le_refl _) hd2 hq hb hr)
      have HBF := hide hS.bfs
      have hbw : Below W.heap.size W (wr.setCell ⟨c + 1, dn, none⟩ (.bool true)) := below_setCell hS.bel (by rw [unhide HC]; exact Nat.le_succ _)
      have HLI := hide (list_any (unhide HFX _ hbw) (by omega) (dn : Int) (by omega))
      rw [show listE s (dn : Int) = 0 by unfold listE; rw [unhide HKD]; rfl] at HLI
      have HBW := hide hbw
      have hwsz : (wr.setCell ⟨c + 1, dn, none⟩ (.bool true)).heap.size = wr.heap.size := by simp [World.setCell]
      have HWS := hide hwsz
      have t1 : ¬ (dn : Int) < 1 := by omega
      have t2 : ¬ (40 : Int) ≤ (dn : Int) := by omega
      have t3 : ((dn : Int) != (dn : Int)) = false := by simp
      obtain ⟨tl, htl⟩ : ∃ tl, tl = todo.length := ⟨_, rfl⟩
      have HTL := hide htl
      rw [← htl] at hcap HQ1 HQ2
      simp only [List.length_cons]
      rw [← htl]
      clear hS HTR hfew hdr hnd hq1 hq2 hbw hwsz e2 htl
      have HQ : Hid (Que wr (.slice (if cap = 1 then some ⟨b, off, none⟩ else some ⟨b, off + 1, none⟩) tl (cap - 1)) todo (c + 2)) := hide (by
        by_cases h : cap = 1
        · rw [if_pos h, h]
          exact unhide HQ1 h
        · rw [if_neg h]
          exact unhide HQ2 h)
      clear HQ1 HQ2
      go_upto_region 7 with fail
      obtain ⟨v2, hv2⟩ : ∃ v2, v2 = Value.slice (if cap = 1 then some ⟨b, off, none⟩ else some ⟨b, off + 1, none⟩) tl (cap - 1) := ⟨_, rfl⟩
      rw [← hv2] at HQ ⊢
      have HLS2 := hide (unhide HLS v2 (unhide HQ))
      clear hv2 HQ HLS c0 hcm hcap
      go_wp2_with fail
      refine (unhide HLI).mono ?_
      rintro e w4 ⟨lv, rfl, HL4⟩
      obtain ⟨adl, capl, hlv, _, _⟩ := (unhide HL4).1.len
      obtain ⟨len, hlen2⟩ : ∃ len, len = (inL s.L (dn : Int)).length := ⟨_, rfl⟩
      have HLN := hide hlen2
      rw [← hlen2] at hlv
      subst hlv
      have HI0 : Hid (TrI W w4 c s v2 done todo (dn : Int) (.slice adl len capl) 0 0) := hide (unhide HLS2 w4 _ (by rw [← unhide HWS]; exact (unhide HL4).2.2) (unhide HL4).1)
      have HWD : Hid (Calls Tryz.prog 24 #[.pointer (some ⟨f, 0, none⟩), .int .i64 (dn : Int), .string ⟨#[46]⟩, .bool true] w4 fun e w' => e = .returned (.tuple #[.int .i64 (dn : Int), .int .i64 0]) ∧ Below w4.heap.size w4 w') := hide (by
        have := walk_any (unhide HFX _ (unhide HI0).bel) (dn : Int) [46] true (by omega) (by decide)
        rw [walk_dot (show isD s (dn : Int) = true from decide_eq_true (unhide HKD))] at this
        exact this)
      clear HL4 HLI hlen2 s0 s1 HLS2 HBW HWS
      go_wp2_with fail
      refine (unhide HWD).mono ?_
      rintro e w5 ⟨rfl, b5⟩
      have HI5 := hide ((unhide HI0).below b5)
      clear b5 HWD HI0
      obtain ⟨TI, hTI⟩ : ∃ TI : World → Value → Nat → Prop, TI = fun wr v i => TrI W wr c s v done todo (dn : Int) (.slice adl len capl) i i := ⟨_, rfl⟩
      have HJ1 : Hid (∀ wr v i, TI wr v i → TrI W wr c s v done todo (dn : Int) (.slice adl len capl) i i) := hide (fun wr v i h => by rw [hTI] at h; exact h)
      have HJ2 : Hid (∀ wr v i, TrI W wr c s v done todo (dn : Int) (.slice adl len capl) i i → TI wr v i) := hide (fun wr v i h => by rw [hTI]; exact h)
      have HI6 : Hid (TI w5 v2 0) := hide (unhide HJ2 _ _ _ (unhide HI5))
      have hle : len ≤ 100 := by
        have := in_len (unhide HOK) (dn : Int)
        have := unhide HLN
        omega
      clear hTI HI5
      go_wp2_with fail
      go_loopw [6, 12] (fun v x wr => ∃ i : Nat, x = .int .i64 (i : Int) ∧ i ≤ len ∧ Hid (TI wr v i)) (fun _ x _ => len - (intOf x).toNat)
      case atStart => exact ⟨0, rfl, Nat.zero_le _, HI6⟩
      case round =>
        obtain ⟨i, rfl, hil, HT3⟩ := hrel
        have hI := unhide HJ1 _ _ _ (unhide HT3)
        by_cases hlt : i < len
        · have hk1 : (i : Int) < (len : Int) := by omega
          have hk0 : (0 : Int) ≤ (i : Int) := by omega
          obtain ⟨t, ht⟩ : ∃ t, (inL s.L (dn : Int))[i]? = some t := ⟨_, List.getElem?_eq_getElem (by have := unhide HLN; omega)⟩
          obtain ⟨g, hg, cj⟩ := hI.row.at ht
          subst hg
          obtain ⟨x, kn, hx1, hx2, hx3, hx4, hx5, hx6, hx7, hx8, hx9⟩ := name_all (unhide HOK) (unhide HT) ht
          have HWN : Hid (Calls Tryz.prog 24 #[.pointer (some ⟨f, 0, none⟩), .int .i64 (dn : Int), .string (BA t), .bool false] wr fun e w' => e = .returned (.tuple #[.int .i64 (kn : Int), .int .i64 0]) ∧ Below wr.heap.size wr w') := hide (by
            have := walk_any (unhide HFX _ hI.bel) (dn : Int) t false (by omega) (by omega)
            rw [hx9] at this
            exact this)
          have t4 : ¬ (kn : Int) < 1 := by omega
          have t5 : ¬ (40 : Int) ≤ (kn : Int) := by omega
          obtain ⟨Z, hZ⟩ : ∃ Z, Z = cntD s.L done (kn : Int) + ((entN s.L (dn : Int)).take i).countP (fun x => decide (x.node = (kn : Int))) := ⟨_, rfl⟩
          have hZl : Z ≤ 1000 := by
            have h1 : cntD s.L done (kn : Int) ≤ s.L.length := List.countP_le_length
            have h2 : ((entN s.L (dn : Int)).take i).countP (fun x => decide (x.node = (kn : Int))) ≤ ((entN s.L (dn : Int)).take i).length := List.countP_le_length
            have h3 : ((entN s.L (dn : Int)).take i).length ≤ (entN s.L (dn : Int)).length := List.length_take_le' _ _
            have h4 : (entN s.L (dn : Int)).length ≤ s.L.length := List.length_filter_le _ _
            have h5 := (unhide HOK).len
            omega
          have HCT : Hid (∀ w6, Below wr.heap.size wr w6 → TrI W (w6.setCell ⟨c, kn, none⟩ (.int .i64 ((Z : Int) + 1))) c s u6 done todo (dn : Int) (.slice (some ⟨g, 0, none⟩) len capl) i (i + 1)) := hide (fun w6 hb => (hI.below hb).count hx1 (by rw [unhide HC]; exact Nat.le_refl _) hx5 hx7 Z hZ)
          have HCC : Hid (∀ w6, Below wr.heap.size wr w6 → w6.cell? ⟨c, kn, none⟩ = some (.int .i64 (Z : Int)) ∧ w6.frozen? ⟨c, kn, none⟩ = false) := hide (fun w6 hb => ⟨by rw [hZ]; exact (hI.below hb).cnt.cell kn (cnt_get _ hx7), (hI.below hb).cnt.frozen kn⟩)
          have HXX := hide (And.intro hx1 (And.intro hx4 (And.intro hx3 hx5)))
          clear hI HT3 ht hx1 hx2 hx3 hx4 hx5 hx9 hZ
          go_wp2_with fail
          refine (unhide HWN).mono ?_
          rintro e w6 ⟨rfl, b6⟩
          have z0 := (unhide HCC w6 b6).1
          have z1 := (unhide HCC w6 b6).2
          have HI7 := hide (unhide HCT w6 b6)
          have HST := hide (stat_any (unhide HFX _ (unhide HI7).bel) (kn : Int) (by omega))
          unfold statK at HST
          clear b6 HWN HCC HCT cj
          obtain ⟨z2, hz2⟩ : ∃ z2 : Int, z2 = if kdI s.T (kn : Int) = 0 then 0 else (statZ s (kn : Int) : Int) := ⟨_, rfl⟩
          obtain ⟨z3, hz3⟩ : ∃ z3 : Int, z3 = if kdI s.T (kn : Int) = 0 then 0 else (nmI s.T (kn : Int) : Int) := ⟨_, rfl⟩
          obtain ⟨z4, hz4⟩ : ∃ z4 : Int, z4 = statE s (kn : Int) := ⟨_, rfl⟩
          rw [← hz2, ← hz3, ← hz4] at HST
          clear hz2 hz3 hz4
          obtain ⟨kk, hkk⟩ : ∃ kk, kk = kdI s.T (kn : Int) := ⟨_, rfl⟩
          rw [← hkk] at HST
          have HKK := hide hkk
          clear hkk
          go_wp2_with fail
          refine (unhide HST).mono ?_
          rintro e w8 ⟨rfl, b8⟩
          have HI8 := hide ((unhide HI7).below b8)
          have hbA : Below w8.heap.size w8 (w8.alloc (.cells #[.int .i64 (kk : Int), .int .i64 z2, .int .i64 z3] 55)) := (Below.refl _ w8).alloc (Nat.le_refl _) _
          have HI9 := hide ((unhide HI8).below hbA)
          clear b8 HST HI7 z0 z1 hbA HI8
          by_cases hk2 : kk = 2
          · have HKX : Hid (kdI s.T x.node = 2) := hide (by rw [(unhide HXX).2.2.2, ← unhide HKK]; exact hk2)
            have HWU : Hid (Calls Tryz.prog 24 #[.pointer (some ⟨f, 0, none⟩), .int .i64 (kn : Int), .string ⟨#[46, 46]⟩, .bool true] (w8.alloc (.cells #[.int .i64 (kk : Int), .int .i64 z2, .int .i64 z3] 55)) fun e w' => e = .returned (.tuple #[.int .i64 (dn : Int), .int .i64 0]) ∧ Below (w8.alloc (.cells #[.int .i64 (kk : Int), .int .i64 z2, .int .i64 z3] 55)).heap.size (w8.alloc (.cells #[.int .i64 (kk : Int), .int .i64 z2, .int .i64 z3] 55)) w') := hide (by
              have hp : s.par (kn : Int) = (dn : Int) := by
                have := (unhide HOK).inv.par x (unhide HXX).2.1 (unhide HKX)
                rw [(unhide HXX).2.2.2, (unhide HXX).2.2.1] at this
                exact this
              have := walk_any (unhide HFX _ (unhide HI9).bel) (kn : Int) [46, 46] true (by omega) (by decide)
              rw [walk_up (show isD s (kn : Int) = true from decide_eq_true (by show kdI s.T (kn : Int) = 2; rw [← unhide HKK]; exact hk2)) (by rw [hp]; omega), hp] at this
              exact this)
            subst hk2
            go_wp2_with fail
            refine (unhide HWU).mono ?_
            rintro e w10 ⟨rfl, b10⟩
            have HIA := hide ((unhide HI9).below b10)
            have hql : (todo ++ (((entN s.L (dn : Int)).take i).filter (fun x => decide (kdI s.T x.node = 2))).map (·.node)).length ≤ 10000 := by
              have h1 := ((unhide HBF).few (unhide HT)).1
              have h2 : (((entN s.L (dn : Int)).take i).filter (fun x => decide (kdI s.T x.node = 2))).length ≤ ((entN s.L (dn : Int)).take i).length := List.length_filter_le _ _
              have h3 : ((entN s.L (dn : Int)).take i).length ≤ i := by rw [List.length_take]; omega
              simp only [List.length_append, List.length_cons, List.length_map] at h1 ⊢
              omega
            obtain ⟨v', w11, hrun, hq, hgr⟩ := (unhide HIA).que.push hql (by have := (unhide HIA).sen.lt; omega) (kn : Int)
            have HRUN := hide hrun
            have HX : Hid (TI w11 v' (i + 1)) := hide (unhide HJ2 _ _ _ ((unhide HIA).dir (unhide HXX).1 (unhide HKX) (by rw [unhide HC]; exact Nat.le_refl _) (by rw [(unhide HXX).2.2.2]; exact hq) hgr))
            clear b10 HWU HIA HI9 hql hrun hq hgr
            go_wp2_with (at_builtin; refine wpList_append_run rfl _ _ _ rfl _ _ _ rfl rfl (unhide HRUN) ?_)
            go_wp2_with fail
            go_roundw
            case rel => exact ⟨i + 1, by go_num, by omega, HX⟩
            case measure => simp [intOf]; omega
          · have hk3 : ((kk : Int) == 2) = false := by rw [beq_eq_false_iff_ne]; omega
            have HX : Hid (TI (w8.alloc (.cells #[.int .i64 (kk : Int), .int .i64 z2, .int .i64 z3] 55)) u6 (i + 1)) := hide (unhide HJ2 _ _ _ ((unhide HI9).plain (unhide HXX).1 (by rw [(unhide HXX).2.2.2, ← unhide HKK]; exact hk2)))
            clear hk2 HI9
            go_wp2_with fail
            go_roundw
            case rel => exact ⟨i + 1, by go_num, by omega, HX⟩
            case measure => simp [intOf]; omega
        · have hk1 : ¬ (i : Int) < (len : Int) := by omega
          have hD := hI.done (unhide HOK).inv (unhide HBF) (by rw [← inL_len']; have := unhide HLN; omega)
          have HU := hide hD.que.form
          have HX : Hid (TS wr u6 (done ++ [(dn : Int)]) (todo ++ kids (kdI s.T) s.L (dn : Int))) := hide (unhide HT2 _ _ _ _ hD)
          clear hI HT3 hD
          go_wp2_with fail
          go_roundg (gk - 1)
          case measure => omega
          case rel =>
            obtain ⟨ad3, cap3, hu6, _, _⟩ := unhide HU
            exact ⟨done ++ [(dn : Int)], todo ++ kids (kdI s.T) s.L (dn : Int), ad3, cap3, hu6, by rw [List.length_append, List.length_cons, List.length_nil]; omega, HX⟩

end Go.Proofs.YtghidcohgkajaaaGreatDoor

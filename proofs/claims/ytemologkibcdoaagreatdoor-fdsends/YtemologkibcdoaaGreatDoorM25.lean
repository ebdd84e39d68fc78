/-
  Directories (stage 13): the tree's own calls: Walk, Make, Mkdir, Symlink, Hold, Loose, Write.
  Directories (stage 13): find.
-/
import Derived.Test.YtemologkibcdoaaGreatDoorM24

/- Directories (stage 13): the tree's own calls: Walk, Make, Mkdir, Symlink, Hold, Loose, Write. -/
namespace Go.Proofs.YtemologkibcdoaaGreatDoor
open Go.RowKit Go.Maps

/-- A tree at f, its nodes at q. -/
structure FX (w : World) (f q : Nat) (Y : Nat → Prop) (s : NS) (nb n : Nat) (B : Bas) : Prop where
  nd : NdX w q Y s nb n B
  blk : Blk w f 68 #[.pointer (some ⟨q, 0, none⟩)]
  no : ¬ Y f
  new : ∀ k, w.heap.size ≤ k → Y k
theorem FX.below {w w' : World} {f q nb n : Nat} {B : Bas} {Y : Nat → Prop} {s : NS} (H : FX w f q Y s nb n B) (hb : Below w.heap.size w w') : FX w' f q Y s nb n B := ⟨H.nd.below hb, H.blk.below hb H.blk.lt, H.no, fun k hk => H.new k (Nat.le_trans hb.size hk)⟩
theorem FX.turn {w w' : World} {f q nb n n' : Nat} {B : Bas} {Y : Nat → Prop} {s s' : NS} (H : FX w f q Y s nb n B) (h1 : NdAt w' q Y s' nb) (h2 : GrownS w w' Y) (h3 : NOk s' n') : FX w' f q Y s' nb n' B := ⟨H.nd.turn h1 h2 h3, H.blk.grownS h2 H.no, H.no, fun k hk => H.new k (Nat.le_trans h2.size hk)⟩
theorem FX.mono {w : World} {f q nb n n' : Nat} {B : Bas} {Y : Nat → Prop} {s : NS} (H : FX w f q Y s nb n B) (h : n ≤ n') : FX w f q Y s nb n' B := ⟨⟨H.nd.at', H.nd.ok.mono h, H.nd.env, H.nd.yb⟩, H.blk, H.no, H.new⟩
/-- What came in between is not turned. -/
theorem FX.renew {w w' : World} {f q nb n : Nat} {B : Bas} {Y : Nat → Prop} {s : NS} (H : FX w f q Y s nb n B) (hb : Below w.heap.size w w') : FX w' f q (fun k => Upto w Y k ∨ w'.heap.size ≤ k) s nb n B := by
  have h := H.nd.tight.below hb
  refine ⟨⟨h.at'.mono (fun k _ hk => .inl hk), h.ok, h.env, fun k hk => ?_⟩, H.blk.below hb H.blk.lt, ?_, fun k hk => .inr hk⟩
  · rcases hk with hk | hk
    · exact H.nd.yb k hk.1
    · exact h.env.le k hk
  · rintro (hk | hk)
    · exact H.no hk.1
    · have := H.blk.lt
      have := hb.size
      omega
set_option maxRecDepth 20000 in
set_option maxHeartbeats 1000000 in
theorem empty_any {w : World} {f q nb n : Nat} {B : Bas} {Y : Nat → Prop} {s : NS} (H : FX w f q Y s nb n B) : Calls Tryz.prog 30 #[.pointer (some ⟨f, 0, none⟩)] w fun e w' => e = .returned (.bool false) ∧ w' = w := by
  have c0 : w.cell? ⟨f, 0, none⟩ = some (.pointer (some ⟨q, 0, none⟩)) := H.blk.cell 0 rfl
  clear H
  go_enter Tryz.func30, Tryz.ntmps30
  go_wp2_with fail
  go_ret
  exact ⟨rfl, rfl⟩
set_option maxRecDepth 20000 in
theorem empty_nil (w : World) : Calls Tryz.prog 30 #[.pointer none] w fun e w' => e = .returned (.bool true) ∧ w' = w := by
  go_enter Tryz.func30, Tryz.ntmps30
  go_wp2_with fail
  go_ret
  exact ⟨rfl, rfl⟩
def refE (s : NS) (d : Int) : Int := if isD s d then 0 else 25
set_option maxRecDepth 20000 in
set_option maxHeartbeats 1000000 in
theorem refuse_any {w : World} {f q nb n : Nat} {B : Bas} {Y : Nat → Prop} {s : NS} (H : FX w f q Y s nb n B) (d : Int) (hb : -9223372036854775808 ≤ d ∧ d ≤ 9223372036854775807) : Calls Tryz.prog 44 #[.pointer (some ⟨f, 0, none⟩), .int .i64 d] w fun e w' => e = .returned (.int .i64 (refE s d)) ∧ w' = w := by
  have c0 : w.cell? ⟨f, 0, none⟩ = some (.pointer (some ⟨q, 0, none⟩)) := H.blk.cell 0 rfl
  have HE := hide (empty_any H)
  have HD := hide (isDir_any H.nd d hb)
  unfold refE
  generalize isD s d = a at HD
  clear H
  cases a with
  | true =>
    go_enter Tryz.func44, Tryz.ntmps44
    go_wp2_with fail
    refine (unhide HE).mono ?_
    rintro e w1 ⟨rfl, hw1⟩
    subst hw1
    go_wp2_with fail
    refine (unhide HD).mono ?_
    rintro e w1 ⟨rfl, hw1⟩
    subst hw1
    go_wp2_with fail
    go_ret
    exact ⟨rfl, rfl⟩
  | false =>
    go_enter Tryz.func44, Tryz.ntmps44
    go_wp2_with fail
    refine (unhide HE).mono ?_
    rintro e w1 ⟨rfl, hw1⟩
    subst hw1
    go_wp2_with fail
    refine (unhide HD).mono ?_
    rintro e w1 ⟨rfl, hw1⟩
    subst hw1
    go_wp2_with fail
    go_ret
    exact ⟨rfl, rfl⟩
set_option maxRecDepth 20000 in
set_option maxHeartbeats 1000000 in
theorem refuse_nil (d : Int) (w : World) : Calls Tryz.prog 44 #[.pointer none, .int .i64 d] w fun e w' => e = .returned (.int .i64 2) ∧ w' = w := by
  go_enter Tryz.func44, Tryz.ntmps44
  go_wp2_with fail
  refine (empty_nil w).mono ?_
  rintro e w1 ⟨rfl, rfl⟩
  go_wp2_with fail
  go_ret
  exact ⟨rfl, rfl⟩
theorem isD_rng {s : NS} {n : Nat} (K : NOk s n) {d : Int} (h : isD s d = true) : 0 ≤ d ∧ d ≤ 1024 := by
  have := K.rng (d := d) (of_decide_eq_true h)
  omega
set_option maxRecDepth 20000 in
set_option maxHeartbeats 1000000 in
theorem walk_any {w : World} {f q nb n : Nat} {B : Bas} {Y : Nat → Prop} {s : NS} (H : FX w f q Y s nb n B) (d : Int) (p : List UInt8) (fl : Bool) (hb : -9223372036854775808 ≤ d ∧ d ≤ 9223372036854775807) (hp : p.length ≤ 100000) : Calls Tryz.prog 20 #[.pointer (some ⟨f, 0, none⟩), .int .i64 d, .string (BA p), .bool fl] w fun e w' => e = .returned (.tuple #[.int .i64 (walkN s d p fl).1, .int .i64 (walkN s d p fl).2]) ∧ Below w.heap.size w w' := by
  have c0 : w.cell? ⟨f, 0, none⟩ = some (.pointer (some ⟨q, 0, none⟩)) := H.blk.cell 0 rfl
  have HR := hide (refuse_any H d hb)
  obtain ⟨RR, hRR⟩ : ∃ RR, RR = walkN s d p fl := ⟨_, rfl⟩
  have HRR := hide hRR
  rw [← hRR]
  unfold walkN at HRR
  unfold refE at HR
  clear hRR
  cases hd : isD s d with
  | false =>
    rw [hd] at HR HRR
    simp only [Bool.false_eq_true, if_false] at HR HRR
    clear H hd
    go_enter Tryz.func20, Tryz.ntmps20
    go_wp2_with fail
    refine (unhide HR).mono ?_
    rintro e w1 ⟨rfl, hw1⟩
    subst hw1
    go_wp2_with fail
    go_ret2
    rw [unhide HRR]
    exact ⟨rfl, Below.refl _ _⟩
  | true =>
    have hr := isD_rng H.nd.ok hd
    have HW := hide (walkFrom_any H.nd d p fl hr.1 hr.2 hp)
    rw [hd] at HR HRR
    simp only [if_true] at HR HRR
    obtain ⟨G, hG⟩ : ∃ G, G = goesN s 8 d p fl 8 := ⟨_, rfl⟩
    rw [← hG] at HW HRR
    clear H hd hr hG
    go_enter Tryz.func20, Tryz.ntmps20
    go_wp2_with fail
    refine (unhide HR).mono ?_
    rintro e w1 ⟨rfl, hw1⟩
    subst hw1
    go_wp2_with fail
    refine (unhide HW).mono ?_
    rintro e w2 ⟨rfl, b2⟩
    have HB := hide b2
    clear b2
    go_wp2_with fail
    go_ret2
    rw [unhide HRR]
    exact ⟨rfl, unhide HB⟩
theorem place_no {s : NS} {d : Int} (h : isD s d = false) (p : List UInt8) : placeN s d p = (0, [], 25) := by
  unfold placeN
  rw [if_pos h]
theorem room_no {s : NS} {d : Int} (h : isD s d = false) (p : List UInt8) : (roomN s d p).2.2 = 25 := by
  unfold roomN
  rw [place_no h]
  rfl
set_option maxRecDepth 20000 in
set_option maxHeartbeats 1000000 in
theorem make_any {w : World} {f q nb n : Nat} {B : Bas} {Y : Nat → Prop} {s : NS} (H : FX w f q Y s nb n B) (hnn : n ≤ 10000) (d : Int) (p : List UInt8) (hb : -9223372036854775808 ≤ d ∧ d ≤ 9223372036854775807) (hp : p.length ≤ 100000) : Calls Tryz.prog 110 #[.pointer (some ⟨f, 0, none⟩), .int .i64 d, .string (BA p)] w fun e w' => ∃ N E, e = .returned (.tuple #[.int .i64 N, .int .i64 E]) ∧ Hid (∃ s', MadeSp s nb d p 1 [] N E s' ∧ FX w' f q Y s' nb (n + 1) B) := by
  have c0 : w.cell? ⟨f, 0, none⟩ = some (.pointer (some ⟨q, 0, none⟩)) := H.blk.cell 0 rfl
  have HR := hide (refuse_any H d hb)
  unfold refE at HR
  cases hd : isD s d with
  | false =>
    have HX : Hid (∃ s', MadeSp s nb d p 1 [] 0 25 s' ∧ FX w f q Y s' nb (n + 1) B) := hide ⟨s, by
      have := room_no hd p
      rw [← this]
      exact .bad (by rw [this]; decide), H.mono (Nat.le_succ _)⟩
    rw [hd] at HR
    simp only [Bool.false_eq_true, if_false] at HR
    clear H hd
    go_enter Tryz.func110, Tryz.ntmps110
    go_wp2_with fail
    refine (unhide HR).mono ?_
    rintro e w1 ⟨rfl, hw1⟩
    subst hw1
    go_wp2_with fail
    go_ret2
    exact ⟨_, _, rfl, HX⟩
  | true =>
    have hr := isD_rng H.nd.ok hd
    have HW := hide (create_any H.nd H.new (by omega) d p 1 [] hr.1 hr.2 hp hd (Nat.zero_le _) (fun h => absurd rfl h) (by decide))
    rw [hd] at HR
    simp only [if_true] at HR
    have HH := hide H
    clear H hd hr
    go_enter Tryz.func110, Tryz.ntmps110
    go_wp2_with fail
    refine (unhide HR).mono ?_
    rintro e w1 ⟨rfl, hw1⟩
    subst hw1
    go_wp2_with fail
    refine (unhide HW).mono ?_
    rintro e w2 ⟨N, E, rfl, HM⟩
    go_wp2_with fail
    go_ret2
    obtain ⟨s', m1, m2, m3⟩ := unhide HM
    exact ⟨_, _, rfl, hide ⟨s', m1, (unhide HH).turn m2 m3 (ok_made (unhide HH).nd.ok m1 (fun h => absurd rfl h))⟩⟩
/-- What Symlink answers and leaves. -/
def SymSp (s : NS) (nb : Nat) (d : Int) (t p : List UInt8) (E : Int) (s' : NS) : Prop := (isD s d = false ∧ E = 25 ∧ s' = s) ∨ (isD s d = true ∧ t = [] ∧ E = 1 ∧ s' = s) ∨ (isD s d = true ∧ 256 < t.length ∧ E = 3 ∧ s' = s) ∨ ∃ N, isD s d = true ∧ t ≠ [] ∧ t.length ≤ 256 ∧ MadeSp s nb d p 3 t N E s'
theorem SymSp.uniq {s s1 s2 : NS} {nb : Nat} {d E1 E2 : Int} {t p : List UInt8} (h1 : SymSp s nb d t p E1 s1) (h2 : SymSp s nb d t p E2 s2) : E1 = E2 ∧ s1 = s2 := by
  rcases h1 with ⟨a, rfl, rfl⟩ | ⟨a, b, rfl, rfl⟩ | ⟨a, b, rfl, rfl⟩ | ⟨N, a, b, c, h1⟩ <;> rcases h2 with ⟨a', rfl, rfl⟩ | ⟨a', b', rfl, rfl⟩ | ⟨a', b', rfl, rfl⟩ | ⟨N', a', b', c', h2⟩
  all_goals first
    | exact ⟨rfl, rfl⟩
    | exact ⟨(h1.uniq h2).2.1, (h1.uniq h2).2.2⟩
    | exact absurd (a.symm.trans a') (by decide)
    | (exact absurd b b')
    | (exact absurd b' b)
    | (subst b; simp at b')
    | (subst b'; simp at b)
    | omega

end Go.Proofs.YtemologkibcdoaaGreatDoor

/- Directories (stage 13): find. -/
namespace Go.Proofs.YtemologkibcdoaaGreatDoor
open Go.RowKit Go.Maps

theorem res_place3 {fn : Func} {t u v : Tmp} (h : fn.results = #[.cell t 85, .tmp u, .tmp v]) (tmps : Array Value) (w : World) (b : Nat) (x0 x1 : Value) (ht : tmps.getD t undef = .pointer (some ⟨b, 0, none⟩))
    (h0 : w.cell? ⟨b, 0, none⟩ = some x0) (h1 : w.cell? ⟨b, 1, none⟩ = some x1) :
    (results fn tmps).run Tryz.prog w = .ok (.tuple #[.agg #[x0, x1], tmps.getD u undef, tmps.getD v undef]) w := by
  have ht' : tmps[t]?.getD undef = .pointer (some ⟨b, 0, none⟩) := by simpa using ht
  unfold results
  rw [h]
  simp [ht', go_sem, h0, h1]
def fndE (s : NS) (d : Int) (p : List UInt8) : Int := if (placeN s d p).2.2 ≠ 0 then (placeN s d p).2.2 else if findN s (placeN s d p).1 (placeN s d p).2.1 = 0 then 23 else 0
structure FndIs (s : NS) (d : Int) (p : List UInt8) (N : Int) (t : List UInt8) (I E : Int) : Prop where
  e : E = fndE s d p
  ok : E = 0 → (placeN s d p).2.2 = 0 ∧ N = (placeN s d p).1 ∧ t = (placeN s d p).2.1 ∧ I = findN s N t ∧ I ≠ 0
  len : t.length ≤ 100000
  rng : (0 ≤ N ∧ N ≤ 1024) ∧ 0 ≤ I ∧ I ≤ 1024
theorem fnd_no {s : NS} {d : Int} {p : List UInt8} {E : Int} (h : fndE s d p = E) (hE : E ≠ 0) : FndIs s d p 0 [] 0 E := ⟨h.symm, fun e => absurd e hE, Nat.zero_le _, by decide, by decide⟩
set_option maxRecDepth 20000 in
set_option maxHeartbeats 4000000 in
theorem nfind_any {w : World} {f q nb n : Nat} {B : Bas} {Y : Nat → Prop} {s : NS} (H : FX w f q Y s nb n B) (d : Int) (p : List UInt8) (hb : -9223372036854775808 ≤ d ∧ d ≤ 9223372036854775807) (hp : p.length ≤ 100000) : Calls Tryz.prog 38 #[.pointer (some ⟨f, 0, none⟩), .int .i64 d, .string (BA p)] w fun e w' => ∃ N t I E, e = .returned (.tuple #[.agg #[.int .i64 N, .string (BA t)], .int .i64 I, .int .i64 E]) ∧ Hid (FndIs s d p N t I E ∧ Below w.heap.size w w') := by
  have hbw : Below w.heap.size w (w.alloc (.cells #[.int .i64 0, .string ⟨#[]⟩] 85)) := (Below.refl _ w).alloc (Nat.le_refl _) _
  have hnew := Blk.new w 85 #[.int .i64 0, .string ⟨#[]⟩]
  have H1 := H.below hbw
  obtain ⟨pb, hpb⟩ : ∃ pb, pb = w.heap.size := ⟨_, rfl⟩
  have HPB : Hid (w.heap.size ≤ pb) := hide (by rw [hpb]; exact Nat.le_refl _)
  have HPB0 := hide hpb
  rw [← hpb] at hnew
  have HK2 := hide hnew
  have HB2 := hide hbw
  have f0 : (w.alloc (.cells #[.int .i64 0, .string ⟨#[]⟩] 85)).cell? ⟨pb, 0, none⟩ = some (.int .i64 0) := hnew.cell 0 rfl
  have f1 : (w.alloc (.cells #[.int .i64 0, .string ⟨#[]⟩] 85)).cell? ⟨pb, 1, none⟩ = some (.string ⟨#[]⟩) := hnew.cell 1 rfl
  have f2 : (w.alloc (.cells #[.int .i64 0, .string ⟨#[]⟩] 85)).frozen? ⟨pb, 0, none⟩ = false := hnew.frozen 0
  have f3 : (w.alloc (.cells #[.int .i64 0, .string ⟨#[]⟩] 85)).frozen? ⟨pb, 1, none⟩ = false := hnew.frozen 1
  have HR := hide (refuse_any H1 d hb)
  have c0 : (w.alloc (.cells #[.int .i64 0, .string ⟨#[]⟩] 85)).cell? ⟨f, 0, none⟩ = some (.pointer (some ⟨q, 0, none⟩)) := H1.blk.cell 0 rfl
  unfold refE at HR
  clear hnew hbw
  cases hd : isD s d with
  | false =>
    have HRES : Hid (FndIs s d p 0 [] 0 25) := hide (fnd_no (by unfold fndE; rw [place_no hd]; rfl) (by decide))
    rw [hd] at HR
    simp only [Bool.false_eq_true, if_false] at HR
    subst hpb
    clear H H1 hd c0 HPB0
    obtain ⟨pb, hpb⟩ : ∃ pb, pb = w.heap.size := ⟨_, rfl⟩
    rw [← hpb] at HK2 f0 f1 f2 f3
    clear HPB
    have HPB : Hid (w.heap.size ≤ pb) := hide (by rw [hpb]; exact Nat.le_refl _)
    go_enter Tryz.func38, Tryz.ntmps38
    go_wp2_with fail
    refine (unhide HR).mono ?_
    rintro e w1 ⟨rfl, hw1⟩
    subst hw1
    rw [← hpb]
    clear hpb
    go_wp2_with fail
    refine bodyPost_ret (res_place3 rfl _ _ pb _ _ rfl (by first | exact (((unhide HK2).set 0 _).set 1 _).cell 0 rfl | exact (unhide HK2).cell 0 rfl) (by first | exact (((unhide HK2).set 0 _).set 1 _).cell 1 rfl | exact (unhide HK2).cell 1 rfl)) rfl ⟨_, _, _, _, rfl, hide ⟨unhide HRES, by first | exact below_set2 (unhide HB2) (unhide HPB) _ _ | exact unhide HB2⟩⟩
  | true =>
    have hr := isD_rng H.nd.ok hd
    have HPO := hide (placeOf_any H1.nd d p hr.1 hr.2 hp hd)
    rw [hd] at HR
    simp only [if_true] at HR
    have HH := hide H1
    clear H H1 hd hr
    obtain ⟨W1, hW1⟩ : ∃ W1, W1 = w.alloc (.cells #[.int .i64 0, .string ⟨#[]⟩] 85) := ⟨_, rfl⟩
    rw [← hW1] at HK2 HB2 HR HPO HH c0 f0 f1 f2 f3
    have HW1 := hide hW1
    clear hW1 hpb
    go_enter Tryz.func38, Tryz.ntmps38
    go_wp2_with fail
    rw [← unhide HW1, ← unhide HPB0]
    refine (unhide HR).mono ?_
    rintro e w1 ⟨rfl, hw1⟩
    have hw2 := hw1.symm
    subst hw2
    clear hw1
    go_wp2_with fail
    refine (unhide HPO).mono ?_
    rintro e w2 ⟨N, t, E, rfl, HP⟩
    have HPI := hide (unhide HP).1
    have ht := (unhide HPI).2.2.1
    have hN0 := (unhide HPI).2.2.2.1
    have hN1 := (unhide HPI).2.2.2.2
    have hbw3 : Below w2.heap.size w2 (w2.alloc (.cells #[.int .i64 N, .string (BA t)] 85)) := (Below.refl _ w2).alloc (Nat.le_refl _) _
    have hb13 : Below W1.heap.size W1 (w2.alloc (.cells #[.int .i64 N, .string (BA t)] 85)) := (unhide HP).2.trans (hbw3.mono (unhide HP).2.size)
    have HB3 := hide ((unhide HB2).trans (hb13.mono (unhide HB2).size))
    have HK3 := hide ((unhide HK2).below hb13 (unhide HK2).lt)
    have HA3 := hide (Blk.new w2 85 #[.int .i64 N, .string (BA t)])
    have HX3 := hide ((unhide HH).below hb13)
    obtain ⟨ab, hab⟩ : ∃ ab, ab = w2.heap.size := ⟨_, rfl⟩
    have HAB := hide hab
    rw [← hab] at HA3
    clear HR HPO HP hbw3 hb13 f0 f1 f2 f3 c0 HK2 HB2 HH hab HW1 HPB0
    have HK2 := HK3
    have HB2 := HB3
    clear HK3 HB3
    have f0 : (w2.alloc (.cells #[.int .i64 N, .string (BA t)] 85)).cell? ⟨pb, 0, none⟩ = some (.int .i64 0) := (unhide HK2).cell 0 rfl
    have f1 : (w2.alloc (.cells #[.int .i64 N, .string (BA t)] 85)).cell? ⟨pb, 1, none⟩ = some (.string ⟨#[]⟩) := (unhide HK2).cell 1 rfl
    have f2 : (w2.alloc (.cells #[.int .i64 N, .string (BA t)] 85)).frozen? ⟨pb, 0, none⟩ = false := (unhide HK2).frozen 0
    have f3 : (w2.alloc (.cells #[.int .i64 N, .string (BA t)] 85)).frozen? ⟨pb, 1, none⟩ = false := (unhide HK2).frozen 1
    by_cases hE : E = 0
    · subst hE
      have HPE := hide (unhide HPI).1.symm
      have HPV := hide ((unhide HPI).2.1 (unhide HPE))
      have HFE : Hid (fndE s d p = if findN s N t = 0 then 23 else 0) := hide (by unfold fndE; rw [unhide HPE, if_neg (by decide), ← (unhide HPV).1, ← (unhide HPV).2])
      go_upto_region 7 with fail
      obtain ⟨W3, hW3⟩ : ∃ W3, W3 = w2.alloc (.cells #[.int .i64 N, .string (BA t)] 85) := ⟨_, rfl⟩
      rw [← hW3] at HK2 HB2 HA3 HX3 f0 f1 f2 f3 ⊢
      rw [← unhide HAB]
      have c0 : W3.cell? ⟨f, 0, none⟩ = some (.pointer (some ⟨q, 0, none⟩)) := (unhide HX3).blk.cell 0 rfl
      have g0 : W3.cell? ⟨ab, 0, none⟩ = some (.int .i64 N) := (unhide HA3).cell 0 rfl
      have g1 : W3.cell? ⟨ab, 1, none⟩ = some (.string (BA t)) := (unhide HA3).cell 1 rfl
      have HLK : Hid (∀ W, FX W f q Y s nb n B ∧ Below W3.heap.size W3 W → Calls Tryz.prog 58 #[.pointer (some ⟨q, 0, none⟩), .agg #[.int .i64 N, .string (BA t)]] W fun e w' => e = .returned (.tuple #[.int .i64 (findN s N t), .bool (isN s N t)]) ∧ w'.cell? ⟨f, 0, none⟩ = some (.pointer (some ⟨q, 0, none⟩)) ∧ (w'.cell? ⟨ab, 0, none⟩ = some (.int .i64 N) ∧ w'.cell? ⟨ab, 1, none⟩ = some (.string (BA t))) ∧ Hid (Below W3.heap.size W3 w')) := hide (fun W h => (lookup_any h.1.nd N t (by omega) (by omega)).mono fun _ w' ⟨e1, e2⟩ => by
        have hb3 := h.2.trans (e2.mono h.2.size)
        have ha := (unhide HA3).below hb3 (unhide HA3).lt
        exact ⟨e1, (h.1.below e2).blk.cell 0 rfl, ⟨ha.cell 0 rfl, ha.cell 1 rfl⟩, hide hb3⟩)
      have H0 := hide (show FX W3 f q Y s nb n B ∧ Below W3.heap.size W3 W3 from ⟨unhide HX3, Below.refl _ _⟩)
      have HD : Hid (∀ W k, FX W f q Y s nb n B ∧ Below W3.heap.size W3 W → FX (W.drewN k) f q Y s nb n B ∧ Below W3.heap.size W3 (W.drewN k)) := hide (fun W k h => ⟨h.1.below (below_drew W k), h.2.trans ((below_drew W k).mono h.2.size)⟩)
      have hfb := (unhide HX3).nd.ok.find N t
      obtain ⟨I, hI⟩ : ∃ I, I = findN s N t := ⟨_, rfl⟩
      have HI := hide hI
      rw [← hI] at HLK HFE hfb
      clear hW3 f0 f1 f2 f3
      by_cases hI0 : I = 0
      · rw [show isN s N t = false from decide_eq_false (by rw [← hI, hI0]; decide)] at HLK
        rw [if_pos hI0] at HFE
        have HRES : Hid (FndIs s d p 0 [] 0 23) := hide (fnd_no (unhide HFE) (by decide))
        clear hI hI0
        go_wp2_with fail
        go_region_held3 (fun w' => w'.cell? ⟨f, 0, none⟩ = some (.pointer (some ⟨q, 0, none⟩)) ∧ w'.cell? ⟨ab, 0, none⟩ = some (.int .i64 N) ∧ w'.cell? ⟨ab, 1, none⟩ = some (.string (BA t))) (go_keep) ((go_at_call 58; refine (unhide HLK _ (by first | exact unhide H0 | exact unhide HD _ _ (unhide H0))).mono ?_; rintro e wa ⟨rfl, a1, a2, HA⟩))
        have HK4 := hide ((unhide HK2).below (unhide HA) (unhide HK2).lt)
        have HB4 := hide ((unhide HB2).trans ((unhide HA).mono (unhide HB2).size))
        clear HK2 HB2 c0 g0 g1
        have HK2 := HK4
        have HB2 := HB4
        have f0 : wa.cell? ⟨pb, 0, none⟩ = some (.int .i64 0) := (unhide HK2).cell 0 rfl
        have f1 : wa.cell? ⟨pb, 1, none⟩ = some (.string ⟨#[]⟩) := (unhide HK2).cell 1 rfl
        have f2 : wa.frozen? ⟨pb, 0, none⟩ = false := (unhide HK2).frozen 0
        have f3 : wa.frozen? ⟨pb, 1, none⟩ = false := (unhide HK2).frozen 1
        go_wp2_with fail
        refine bodyPost_ret (res_place3 rfl _ _ pb _ _ rfl (by first | exact (((unhide HK2).set 0 _).set 1 _).cell 0 rfl | exact (unhide HK2).cell 0 rfl) (by first | exact (((unhide HK2).set 0 _).set 1 _).cell 1 rfl | exact (unhide HK2).cell 1 rfl)) rfl ⟨_, _, _, _, rfl, hide ⟨unhide HRES, by first | exact below_set2 (unhide HB2) (unhide HPB) _ _ | exact unhide HB2⟩⟩
      · rw [show isN s N t = true from decide_eq_true (by rw [← hI]; exact hI0)] at HLK
        rw [if_neg hI0] at HFE
        have HRES : Hid (FndIs s d p N t I 0) := hide ⟨(unhide HFE).symm, fun _ => ⟨unhide HPE, (unhide HPV).1, (unhide HPV).2, hI, hI0⟩, ht, ⟨hN0, hN1⟩, hfb⟩
        clear hI hI0
        go_wp2_with fail
        go_region_held3 (fun w' => w'.cell? ⟨f, 0, none⟩ = some (.pointer (some ⟨q, 0, none⟩)) ∧ w'.cell? ⟨ab, 0, none⟩ = some (.int .i64 N) ∧ w'.cell? ⟨ab, 1, none⟩ = some (.string (BA t))) (go_keep) ((go_at_call 58; refine (unhide HLK _ (by first | exact unhide H0 | exact unhide HD _ _ (unhide H0))).mono ?_; rintro e wa ⟨rfl, a1, a2, HA⟩))
        have HK4 := hide ((unhide HK2).below (unhide HA) (unhide HK2).lt)
        have HB4 := hide ((unhide HB2).trans ((unhide HA).mono (unhide HB2).size))
        have g0' := a2.1
        have g1' := a2.2
        clear HK2 HB2 c0 g0 g1 a2
        have HK2 := HK4
        have HB2 := HB4
        have f0 : wa.cell? ⟨pb, 0, none⟩ = some (.int .i64 0) := (unhide HK2).cell 0 rfl
        have f1 : wa.cell? ⟨pb, 1, none⟩ = some (.string ⟨#[]⟩) := (unhide HK2).cell 1 rfl
        have f2 : wa.frozen? ⟨pb, 0, none⟩ = false := (unhide HK2).frozen 0
        have f3 : wa.frozen? ⟨pb, 1, none⟩ = false := (unhide HK2).frozen 1
        go_wp2_with fail
        refine bodyPost_ret (res_place3 rfl _ _ pb _ _ rfl (by first | exact (((unhide HK2).set 0 _).set 1 _).cell 0 rfl | exact (unhide HK2).cell 0 rfl) (by first | exact (((unhide HK2).set 0 _).set 1 _).cell 1 rfl | exact (unhide HK2).cell 1 rfl)) rfl ⟨_, _, _, _, rfl, hide ⟨unhide HRES, by first | exact below_set2 (unhide HB2) (unhide HPB) _ _ | exact unhide HB2⟩⟩
    · have hE1 : (E != 0) = true := by simpa using hE
      have HRES : Hid (FndIs s d p 0 [] 0 E) := hide (fnd_no (by
        have h := (unhide HPI).1
        unfold fndE
        rw [if_pos (by rw [← h]; exact hE)]
        exact h.symm) hE)
      clear hE
      go_wp2_with fail
      refine bodyPost_ret (res_place3 rfl _ _ pb _ _ rfl (by first | exact (((unhide HK2).set 0 _).set 1 _).cell 0 rfl | exact (unhide HK2).cell 0 rfl) (by first | exact (((unhide HK2).set 0 _).set 1 _).cell 1 rfl | exact (unhide HK2).cell 1 rfl)) rfl ⟨_, _, _, _, rfl, hide ⟨unhide HRES, by first | exact below_set2 (unhide HB2) (unhide HPB) _ _ | exact unhide HB2⟩⟩

end Go.Proofs.YtemologkibcdoaaGreatDoor

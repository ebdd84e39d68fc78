/-
  Directories (stage 13): going through all directories from the root on.
  Directories (stage 13): a directory's names as a map.
-/
import Derived.Test.YtemologkibcdoaaGreatDoorM14
import Derived.Test.YtemologkibcdoaaGreatDoorM05
import Derived.Maps.OwnSet
import Derived.Maps.Ext
import Derived.MapKept

/- Directories (stage 13): going through all directories from the root on. -/
namespace Go.Proofs.YtemologkibcdoaaGreatDoor
open Go.RowKit Go.Maps

/-- The directories in a directory. -/
def kids (kd : Int → Nat) (L : List Nm) (d : Int) : List Int := ((L.filter (fun x => decide (x.dir = d))).filter (fun x => decide (kd x.node = 2))).map (·.node)
/-- How many names of these directories lead to a node. -/
def cntD (L : List Nm) (done : List Int) (i : Int) : Nat := L.countP (fun x => decide (x.node = i) && decide (x.dir ∈ done))
/-- How far one has gone: what was gone through, and what is to be. -/
structure Bfs (nm kd : Int → Nat) (L : List Nm) (done todo : List Int) : Prop where
  nodup : (done ++ todo).Nodup
  dirs : ∀ d ∈ done ++ todo, kd d = 2 ∧ 1 ≤ nm d
  root : 1 ∈ done ++ todo
  down : ∀ x ∈ L, x.dir ∈ done → kd x.node = 2 → x.node ∈ done ++ todo
  up : ∀ d ∈ done ++ todo, d = 1 ∨ ∃ x ∈ L, x.node = d ∧ x.dir ∈ done
theorem Bfs.start {nm kd : Int → Nat} {L : List Nm} {par : Int → Int} (H : NV nm kd L par) : Bfs nm kd L [] [1] := by
  refine ⟨by simp, fun d hd => ?_, by simp, fun x _ h => ?_, fun d hd => Or.inl (by simpa using hd)⟩
  · have : d = 1 := by simpa using hd
    rw [this]
    exact ⟨H.root, H.nm1⟩
  · cases h
theorem mem_kids {kd : Int → Nat} {L : List Nm} {d i : Int} : i ∈ kids kd L d ↔ ∃ x ∈ L, x.dir = d ∧ kd x.node = 2 ∧ x.node = i := by
  unfold kids
  rw [List.mem_map]
  constructor
  · rintro ⟨x, hx, e⟩
    obtain ⟨h1, h2⟩ := List.mem_filter.1 hx
    obtain ⟨h3, h4⟩ := List.mem_filter.1 h1
    exact ⟨x, h3, by simpa using h4, by simpa using h2, e⟩
  · rintro ⟨x, hx, h1, h2, e⟩
    exact ⟨x, List.mem_filter.2 ⟨List.mem_filter.2 ⟨hx, by simpa using h1⟩, by simpa using h2⟩, e⟩
theorem Srt.nodup {L : List Nm} (h : Srt L) : L.Nodup := List.Pairwise.imp (fun {a b} hab e => by rw [e, ltM_irr] at hab; cases hab) h
theorem kids_nodup {nm kd : Int → Nat} {L : List Nm} {par : Int → Int} (H : NV nm kd L par) (d : Int) : (kids kd L d).Nodup := by
  unfold kids
  have h1 : ((L.filter (fun x => decide (x.dir = d))).filter (fun x => decide (kd x.node = 2))).Nodup := List.Pairwise.filter _ (List.Pairwise.filter _ H.srt.nodup)
  refine List.pairwise_map.2 (List.Pairwise.imp_of_mem ?_ h1)
  intro a b ha hb hab e
  obtain ⟨a1, a2⟩ := List.mem_filter.1 ha
  obtain ⟨b1, _⟩ := List.mem_filter.1 hb
  exact hab (H.one a (List.mem_filter.1 a1).1 b (List.mem_filter.1 b1).1 (by simpa using a2) e)
theorem Bfs.step {nm kd : Int → Nat} {L : List Nm} {par : Int → Int} (H : NV nm kd L par) {done todo : List Int} {d : Int} (h : Bfs nm kd L done (d :: todo)) : Bfs nm kd L (done ++ [d]) (todo ++ kids kd L d) := by
  have e : done ++ [d] ++ (todo ++ kids kd L d) = (done ++ d :: todo) ++ kids kd L d := by simp
  have hdn : d ∉ done := fun hd => by
    have := (List.nodup_append.1 h.nodup).2.2 d hd d List.mem_cons_self
    exact this rfl
  have hin : ∀ i, i ∈ done ++ [d] ↔ i ∈ done ∨ i = d := fun i => by simp
  refine ⟨?_, fun i hi => ?_, ?_, fun x hx hd hk => ?_, fun i hi => ?_⟩
  · rw [e, List.nodup_append]
    refine ⟨h.nodup, kids_nodup H d, fun a ha b hb hab => ?_⟩
    subst hab
    obtain ⟨x, hx, h1, h2, h3⟩ := mem_kids.1 hb
    rcases h.up a ha with h4 | ⟨y, hy, h4, h5⟩
    · exact H.top x hx (h3.trans h4)
    · have : x = y := H.one x hx y hy h2 (h3.trans h4.symm)
      rw [← this, h1] at h5
      exact hdn h5
  · rw [e] at hi
    rcases List.mem_append.1 hi with hi | hi
    · exact h.dirs i hi
    · obtain ⟨x, hx, h1, h2, h3⟩ := mem_kids.1 hi
      rw [← h3]
      exact ⟨h2, NV.node1 H.names hx⟩
  · rw [e]
    exact List.mem_append_left _ h.root
  · rw [e]
    rcases (hin _).1 hd with hd | hd
    · exact List.mem_append_left _ (h.down x hx hd hk)
    · exact List.mem_append_right _ (mem_kids.2 ⟨x, hx, hd, hk, rfl⟩)
  · rw [e] at hi
    rcases List.mem_append.1 hi with hi | hi
    · rcases h.up i hi with h1 | ⟨x, hx, h1, h2⟩
      · exact .inl h1
      · exact .inr ⟨x, hx, h1, (hin _).2 (.inl h2)⟩
    · obtain ⟨x, hx, h1, h2, h3⟩ := mem_kids.1 hi
      exact .inr ⟨x, hx, h3, (hin _).2 (.inr h1)⟩
/-- At the end all names were gone through. -/
theorem Bfs.all {nm kd : Int → Nat} {L : List Nm} {par : Int → Int} (H : NV nm kd L par) {done : List Int} (h : Bfs nm kd L done []) : ∀ x ∈ L, x.dir ∈ done := by
  obtain ⟨rk, hr⟩ := H.rank
  have key : ∀ n (d : Int), rk d ≤ n → kd d = 2 → 1 ≤ nm d → d ∈ done := by
    intro n
    induction n with
    | zero =>
      intro d hn hd hm
      by_cases h1 : d = 1
      · rw [h1]; simpa using h.root
      · have h2 := H.names d
        rw [if_neg h1] at h2
        obtain ⟨x, hx, e⟩ := List.countP_pos_iff.1 (show 0 < L.countP (fun x => decide (x.node = d)) by omega)
        have e : x.node = d := by simpa using e
        have := hr x hx (by rw [e]; exact hd)
        rw [e] at this
        omega
    | succ n ih =>
      intro d hn hd hm
      by_cases h1 : d = 1
      · rw [h1]; simpa using h.root
      · have h2 := H.names d
        rw [if_neg h1] at h2
        obtain ⟨x, hx, e⟩ := List.countP_pos_iff.1 (show 0 < L.countP (fun x => decide (x.node = d)) by omega)
        have e : x.node = d := by simpa using e
        have h3 := hr x hx (by rw [e]; exact hd)
        rw [e] at h3
        have h4 := ih x.dir (by omega) (H.dirs x hx).1 (H.dirs x hx).2
        have h5 := h.down x hx h4 (by rw [e]; exact hd)
        rw [e] at h5
        simpa using h5
  exact fun x hx => key _ x.dir (Nat.le_refl _) (H.dirs x hx).1 (H.dirs x hx).2
theorem cnt_all {nm kd : Int → Nat} {L : List Nm} {par : Int → Int} (H : NV nm kd L par) {done : List Int} (h : Bfs nm kd L done []) (i : Int) : nm i = cntD L done i + if i = 1 then 1 else 0 := by
  rw [H.names i]
  unfold cntD
  congr 1
  refine List.countP_congr (fun x hx => ?_)
  have := h.all H x hx
  simp [this]
theorem cnt_step {L : List Nm} {done : List Int} {d : Int} (h : d ∉ done) (i : Int) : cntD L (done ++ [d]) i = cntD L done i + (L.filter (fun x => decide (x.dir = d))).countP (fun x => decide (x.node = i)) := by
  unfold cntD
  induction L with
  | nil => rfl
  | cons x L ih =>
    rw [List.countP_cons, List.countP_cons, ih]
    by_cases h1 : x.dir = d
    · rw [List.filter_cons_of_pos (by simpa using h1), List.countP_cons]
      by_cases h3 : x.node = i
      · simp [h1, h3, h]
        omega
      · simp [h3]
    · rw [List.filter_cons_of_neg (by simpa using h1)]
      by_cases h3 : x.node = i
      · simp [h1, h3]
        omega
      · simp [h3]

end Go.Proofs.YtemologkibcdoaaGreatDoor

/- Directories (stage 13): a directory's names as a map. -/
namespace Go.Proofs.YtemologkibcdoaaGreatDoor
open Go.RowKit Go.Maps

/-- An element is read as itself. -/
def itself (v : Value) : Option (DataW Value × List MemPlace) := some (.held v, [])
theorem strKeyed : Keyed Tryz.prog 9 := string_keyed Tryz.underlying9
theorem hk_str (l : List UInt8) (h : l.length ≤ maxLen) : keyOf Tryz.prog 9 (.string (BA l)) = some (.string l) := WideMaps.keyOf_string_mk Tryz.underlying9 (by rw [BA_size]; exact h)
theorem wf64 {i : Int} (h : -9223372036854775808 ≤ i ∧ i ≤ 9223372036854775807) : (Lit.int .i64 i).wf = true := by
  simp [Lit.wf, IntKind.min, IntKind.max, IntKind.signed, IntKind.bits]
  exact h
def entN (L : List Nm) (d : Int) : List Nm := L.filter (fun x => decide (x.dir = d))
def encN (x : Nm) : Lit × DataW Value := (.string x.name, .held (.int .i64 x.node))
def datN (L : List Nm) (d : Int) : DataW Value := .map ((entN L d).map encN)
theorem ltT_bef : ∀ a b : List UInt8, ltT a b = bytesBefore a b
  | [], [] => rfl
  | [], _ :: _ => rfl
  | _ :: _, [] => rfl
  | a :: s, b :: t => by
    rw [ltT, bytesBefore, ltT_bef s t]
    by_cases h : a = b
    · subst h; simp
    · simp [h]
theorem ent_mem {L : List Nm} {d : Int} {x : Nm} : x ∈ entN L d ↔ x ∈ L ∧ x.dir = d := by
  unfold entN
  rw [List.mem_filter]
  simp
theorem dat_canon {L : List Nm} (h : Srt L) (d : Int) : Canon (datN L d) := by
  refine ⟨_, rfl, ?_, ?_⟩
  · rw [List.pairwise_map]
    have h1 : (entN L d).Pairwise (fun a b => ltM a b = true) := List.Pairwise.filter _ h
    refine List.Pairwise.imp_of_mem ?_ h1
    intro a b ha hb hab
    have e1 := (ent_mem.1 ha).2
    have e2 := (ent_mem.1 hb).2
    show bytesBefore a.name b.name = true
    rw [← ltT_bef]
    simp only [ltM, e1, e2, Bool.or_eq_true, Bool.and_eq_true, decide_eq_true_eq] at hab
    rcases hab with hab | hab
    · omega
    · exact hab.2
  · intro p hp
    obtain ⟨x, _, rfl⟩ := List.mem_map.1 hp
    trivial
theorem dat_has_mem {L : List Nm} {d : Int} {x : Nm} (hx : x ∈ L) (hd : x.dir = d) : has (datN L d) (.string x.name) = true := by
  unfold datN
  rw [has_eq, List.any_eq_true]
  exact ⟨encN x, List.mem_map.2 ⟨x, ent_mem.2 ⟨hx, hd⟩, rfl⟩, by simp [encN, Lit.sameKey]⟩
theorem dat_has_no {L : List Nm} {d : Int} {k : Lit} (h : ∀ y ∈ L, y.dir = d → k ≠ .string y.name) : has (datN L d) k = false := by
  cases hh : has (datN L d) k with
  | false => rfl
  | true =>
    unfold datN at hh
    rw [has_eq, List.any_eq_true] at hh
    obtain ⟨p, hp, hk⟩ := hh
    obtain ⟨x, hx, rfl⟩ := List.mem_map.1 hp
    have := ent_mem.1 hx
    exact absurd (WideAt.sameKey_eq hk).symm (h x this.1 this.2)
theorem dat_at {L : List Nm} (hs : Srt L) {d : Int} {x : Nm} (hx : x ∈ L) (hd : x.dir = d) (z : DataW Value) : (datN L d).atKey (.string x.name) z = .held (.int .i64 x.node) := by
  unfold datN DataW.atKey
  have : ((entN L d).map encN).find? (fun p => p.1.sameKey (.string x.name)) = some (encN x) := by
    cases hf : ((entN L d).map encN).find? (fun p => p.1.sameKey (.string x.name)) with
    | none =>
      have := List.find?_eq_none.1 hf (encN x) (List.mem_map.2 ⟨x, ent_mem.2 ⟨hx, hd⟩, rfl⟩)
      simp [encN, Lit.sameKey] at this
    | some p =>
      have h1 := List.find?_some hf
      obtain ⟨y, hy, rfl⟩ := List.mem_map.1 (List.mem_of_find?_eq_some hf)
      have h2 := ent_mem.1 hy
      have h3 : (encN y).1 = .string x.name := WideAt.sameKey_eq h1
      have h4 : y.name = x.name := by unfold encN at h3; injection h3
      rw [hs.key h2.1 hx (h2.2.trans hd.symm) h4]
  simp only [this]
  rfl
theorem dat_size (L : List Nm) (d : Int) : Maps.size (datN L d) = (inL L d).length := by
  unfold datN inL entN
  rw [size_eq, List.length_map, List.length_map]
/-- A name is put. -/
theorem dat_put {L : List Nm} (hs : Srt L) {x : Nm} (hno : ∀ y ∈ L, ¬ (y.dir = x.dir ∧ y.name = x.name)) (c1 : Canon ((datN L x.dir).put (.string x.name) (.held (.int .i64 x.node)))) : (datN L x.dir).put (.string x.name) (.held (.int .i64 x.node)) = datN (putL L x) x.dir := by
  have hs' := hs.put hno
  refine ext c1 (dat_canon hs' x.dir) (fun k => ?_) (fun k z hk => ?_)
  · by_cases e : k = .string x.name
    · subst e
      rw [has_put_same (show IsMap (datN L x.dir) from ⟨_, rfl⟩) (show WideAt.IsKeyLit (.string x.name) from trivial), dat_has_mem (x := x) (mem_put.2 (.inl rfl)) rfl]
    · rw [has_put_other e]
      cases hh : has (datN L x.dir) k with
      | true =>
        unfold datN at hh
        rw [has_eq, List.any_eq_true] at hh
        obtain ⟨p, hp, hk⟩ := hh
        obtain ⟨y, hy, rfl⟩ := List.mem_map.1 hp
        have h1 := ent_mem.1 hy
        have h2 : (encN y).1 = k := WideAt.sameKey_eq hk
        rw [← h2]
        exact (dat_has_mem (mem_put.2 (.inr h1.1)) h1.2).symm
      | false =>
        refine (dat_has_no (fun y hy hd e2 => ?_)).symm
        rcases mem_put.1 hy with rfl | hy
        · exact e e2
        · rw [e2, dat_has_mem hy hd] at hh
          cases hh
  · by_cases e : k = .string x.name
    · subst e
      rw [atKey_put_same (show IsMap (datN L x.dir) from ⟨_, rfl⟩) (show WideAt.IsKeyLit (.string x.name) from trivial), dat_at hs' (x := x) (mem_put.2 (.inl rfl)) rfl]
    · rw [has_put_other e] at hk
      rw [atKey_put_other e]
      unfold datN at hk
      rw [has_eq, List.any_eq_true] at hk
      obtain ⟨p, hp, hk⟩ := hk
      obtain ⟨y, hy, rfl⟩ := List.mem_map.1 hp
      have h1 := ent_mem.1 hy
      have h2 : (encN y).1 = k := WideAt.sameKey_eq hk
      rw [← h2]
      show (datN L x.dir).atKey (.string y.name) z = (datN (putL L x) x.dir).atKey (.string y.name) z
      rw [dat_at hs h1.1 h1.2, dat_at hs' (mem_put.2 (.inr h1.1)) h1.2]
theorem dat_del (L : List Nm) (d : Int) (n : List UInt8) : (datN L d).del (.string n) = datN (dropL L d n) d := by
  unfold datN DataW.del
  simp only
  congr 1
  rw [List.filter_map]
  congr 1
  unfold entN dropL
  rw [List.filter_filter, List.filter_filter]
  congr 1
  funext x
  show ((!(Lit.string x.name).sameKey (.string n)) && decide (x.dir = d)) = (decide (x.dir = d) && !x.at d n)
  have e : (Lit.string x.name).sameKey (.string n) = decide (x.name = n) := by
    show (x.name == n) = _
    by_cases h : x.name = n <;> simp [h]
  rw [e]
  by_cases h1 : x.dir = d <;> by_cases h2 : x.name = n <;> simp [Nm.at, h1, h2]
theorem ent_put_other {L : List Nm} {x : Nm} {e : Int} (h : x.dir ≠ e) : entN (putL L x) e = entN L e := by
  unfold entN putL
  rw [List.filter_append, List.filter_cons_of_neg (by simpa using h), ← List.filter_append, List.takeWhile_append_dropWhile]
theorem ent_drop_other {L : List Nm} {d e : Int} {n : List UInt8} (h : d ≠ e) : entN (dropL L d n) e = entN L e := by
  unfold entN dropL
  rw [List.filter_filter]
  congr 1
  funext x
  by_cases h1 : x.dir = e
  · have h2 : ¬ e = d := fun e2 => h e2.symm
    simp [Nm.at, h1, h2]
  · simp [h1]
theorem dat_put_other {L : List Nm} {x : Nm} {e : Int} (h : x.dir ≠ e) : datN (putL L x) e = datN L e := by unfold datN; rw [ent_put_other h]
theorem dat_drop_other {L : List Nm} {d e : Int} {n : List UInt8} (h : d ≠ e) : datN (dropL L d n) e = datN L e := by unfold datN; rw [ent_drop_other h]
theorem dat_none {L : List Nm} {d : Int} (h : ∀ y ∈ L, y.dir ≠ d) : datN L d = .map [] := by
  unfold datN
  have : entN L d = [] := List.filter_eq_nil_iff.2 (fun y hy => by simpa using h y hy)
  rw [this]
  rfl

end Go.Proofs.YtemologkibcdoaaGreatDoor

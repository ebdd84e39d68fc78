/-
  FdsEnds, the numbers: a node's users are the open files; a file without numbers is closed.
-/
import Derived.Test.YtemologkibcdoaaGreatDoorFdES
namespace Go.Proofs.YtemologkibcdoaaGreatDoor
open Go.RowKit Go.Maps

def openAt (i : Int) (t : Th) : Bool := match t.wh with | .file x => !x.cl && decide (x.node = i) | _ => false
def usA (A : AS) (i : Int) : Nat := A.th.countP (openAt i)
def CloBut (A : AS) (k : Nat) : Prop := ∀ (j : Nat) (x : Fl), j ≠ k → A.th[j]? = some ⟨.file x, 0⟩ → x.cl = true
def Clo (A : AS) : Prop := ∀ (j : Nat) (x : Fl), A.th[j]? = some ⟨.file x, 0⟩ → x.cl = true
structure EI (A : AS) (m : Nat) : Prop where
  es : ES A.s (usA A) m
  clo : Clo A
theorem us_many (A : AS) (j k : Nat) (i : Int) : usA (manyA A j k) i = usA A i := by
  cases h : A.th[j]? with
  | none => unfold manyA; rw [h]
  | some t =>
    rw [manyA_th h]
    have := cp_set (openAt i) A.th j t ⟨t.wh, k⟩ h
    have e : openAt i ⟨t.wh, k⟩ = openAt i t := rfl
    rw [e] at this
    show (A.th.set j ⟨t.wh, k⟩).countP (openAt i) = A.th.countP (openAt i)
    omega
theorem us_take (A : AS) (k j : Nat) (fd i : Int) : usA (takeA A k fd j) i = usA A i := by
  unfold takeA
  split
  · rfl
  · exact us_many A j _ i
theorem take_s (A : AS) (k j : Nat) (fd : Int) : (takeA A k fd j).s = A.s := by
  unfold takeA
  split
  · rfl
  · exact (row_many A j _).2
theorem us_nw (A : AS) (y : Wh) (i : Int) : usA (nwA A y) i = usA A i + (if openAt i ⟨y, 0⟩ then 1 else 0) := by
  unfold usA nwA
  rw [List.countP_append, List.countP_singleton]
theorem us_wh {A : AS} {j : Nat} {t : Th} (h : A.th[j]? = some t) (y : Wh) (i : Int) : usA (setWh A j y) i + (if openAt i t then 1 else 0) = usA A i + (if openAt i ⟨y, t.many⟩ then 1 else 0) := by
  rw [setWh_th h]
  exact cp_set (openAt i) A.th j t ⟨y, t.many⟩ h
theorem ES.us {s : NS} {u u' : Int → Nat} {m : Nat} (H : ES s u m) (h : ∀ i, u' i = u i) : ES s u' m := by
  have : u' = u := funext h
  rw [this]
  exact H
theorem clo_take {A : AS} {k j : Nat} {fd : Int} (h : CloBut A j) (hj : ∃ t, A.th[j]? = some t) : Clo (takeA A k fd j) := by
  obtain ⟨t, ht⟩ := hj
  intro i x hi
  unfold takeA at hi
  rw [ht] at hi
  have hi : (manyA A j (t.many + 1)).th[i]? = some ⟨.file x, 0⟩ := hi
  rw [manyA_th ht] at hi
  rcases get_set hi with ⟨_, e⟩ | ⟨hne, hi⟩
  · injection e with _ e
    omega
  · exact h i x hne hi
theorem ei_take {A : AS} {m : Nat} (H : EI A m) (k j : Nat) (fd : Int) : EI (takeA A k fd j) m := by
  cases h : A.th[j]? with
  | none =>
    have : takeA A k fd j = A := by unfold takeA; rw [h]
    rw [this]
    exact H
  | some t =>
    refine ⟨?_, clo_take (fun i x _ hi => H.clo i x hi) ⟨t, h⟩⟩
    rw [take_s]
    exact H.es.us (us_take A k j fd)
/-- A new thing that is no file, taken. -/
theorem ei_new {A : AS} {m : Nat} (H : EI A m) {y : Wh} (hy : ∀ x, y ≠ .file x) (k : Nat) (fd : Int) : EI (takeA (nwA A y) k fd A.th.length) m := by
  have ho : ∀ i, openAt i ⟨y, 0⟩ = false := fun i => by
    cases y with
    | file x => exact absurd rfl (hy x)
    | _ => rfl
  refine ⟨?_, clo_take (fun i x hne hi => ?_) ⟨_, nw_get A y⟩⟩
  · rw [take_s]
    exact H.es.us (fun i => by
      rw [us_take, us_nw, ho]
      rfl)
  · rcases get_app hi with ⟨e, _⟩ | ⟨_, hi⟩
    · exact absurd e hne
    · exact H.clo i x hi
theorem EI.of {A A' : AS} {m : Nat} (H : EI A m) (hs : A'.s = A.s) (ht : A'.th = A.th) : EI A' m :=
  ⟨by rw [hs]; exact H.es.us (fun i => by unfold usA; rw [ht]), fun j x hj => by rw [ht] at hj; exact H.clo j x hj⟩
theorem setPp_s (A : AS) (p : Nat) (g : Pi.Pp → Pi.Pp) : (setPp A p g).s = A.s ∧ (setPp A p g).th = A.th := by
  unfold setPp
  split <;> exact ⟨rfl, rfl⟩
/-- What a file is has turned, its node and whether it is closed have not. -/
theorem ei_file {A : AS} {m j : Nat} (H : EI A m) {x x' : Fl} {mm : Nat} (h : A.th[j]? = some ⟨.file x, mm⟩) (h1 : x'.node = x.node) (h2 : x'.cl = x.cl) {s' : NS} (hs : ES s' (usA A) m) : EI { setWh A j (.file x') with s := s' } m := by
  refine ⟨?_, fun i z hi => ?_⟩
  · refine hs.us (fun i => ?_)
    have := us_wh h (.file x') i
    have e : openAt i ⟨.file x', mm⟩ = openAt i ⟨.file x, mm⟩ := by
      show (!x'.cl && decide (x'.node = i)) = (!x.cl && decide (x.node = i))
      rw [h1, h2]
    rw [e] at this
    show usA (setWh A j (.file x')) i = usA A i
    omega
  · have hi : (setWh A j (.file x')).th[i]? = some ⟨.file z, 0⟩ := hi
    rw [setWh_th h] at hi
    rcases get_set hi with ⟨_, e⟩ | ⟨_, hi⟩
    · injection e with e1 e2
      injection e1 with e1
      subst e1
      have e2 : mm = 0 := e2.symm
      subst e2
      rw [h2]
      exact H.clo j x h
    · exact H.clo i z hi
theorem ei_tape {A : AS} {m j : Nat} (H : EI A m) {t : List UInt8} {mm : Nat} (h : A.th[j]? = some ⟨.tape t, mm⟩) (t' : List UInt8) : EI (setWh A j (.tape t')) m := by
  refine ⟨?_, fun i z hi => ?_⟩
  · have hs : (setWh A j (.tape t')).s = A.s := by rw [setWh_th h]
    rw [hs]
    refine H.es.us (fun i => ?_)
    have := us_wh h (.tape t') i
    have e1 : openAt i ⟨.tape t, mm⟩ = false := rfl
    have e2 : openAt i ⟨.tape t', mm⟩ = false := rfl
    rw [e1, e2] at this
    simpa using this
  · rw [setWh_th h] at hi
    rcases get_set hi with ⟨_, e⟩ | ⟨_, hi⟩
    · injection e with e1 _
      cases e1
    · exact H.clo i z hi
theorem ei_read {A : AS} {m : Nat} (H : EI A m) (k : Nat) (fd n : Int) : EI (redA A k fd n) m := by
  unfold redA
  split
  · exact H
  · split
    · exact H
    · rename_i i _ _ t ht
      obtain ⟨wh, mm⟩ := t
      cases wh with
      | file x =>
        have e : rdWhA A i n (.file x) = { setWh A i (.file (xrdX A.s x n)) with s := A.s } := by
          show setWh A i _ = _
          rw [setWh_th ht]
        show EI (rdWhA A i n (.file x)) m
        rw [e]
        exact ei_file H ht (x' := xrdX A.s x n) rfl rfl H.es
      | rd p => exact H.of (setPp_s _ _ _).1 (setPp_s _ _ _).2
      | wr p => exact H
      | sink p => exact H
      | tape t =>
        show EI (if n < 0 then A else _) m
        split
        · exact H
        · exact ei_tape H ht _
theorem ei_write {A A' : AS} {m nb k : Nat} (H : EI A m) {fd N E : Int} {d : List UInt8} (h : WrtA A nb k fd d N E A') : EI A' m := by
  cases h with
  | no h => exact H
  | via i t N E A' h1 h2 h3 =>
    obtain ⟨wh, mm⟩ := t
    cases h3 with
    | file x N E s' x' h =>
      rcases h with ⟨_, _, _, rfl, rfl⟩ | ⟨_, N1, h6, _, rfl⟩
      · exact ei_file H h2 rfl rfl H.es
      · exact ei_file H h2 (x' := { x with at' := if E = 0 then xwrA A.s x + N1 else xwrA A.s x }) rfl rfl (es_write H.es h6)
    | rd p => exact H
    | wr p => exact H.of (setPp_s _ _ _).1 (setPp_s _ _ _).2
    | tape t => exact H
    | sink p t hk => exact H.of rfl rfl
theorem us_pos {A : AS} {j : Nat} {x : Fl} {mm : Nat} (h : A.th[j]? = some ⟨.file x, mm⟩) (hc : x.cl = false) : 1 ≤ usA A x.node := by
  unfold usA
  exact List.countP_pos_iff.2 ⟨_, List.mem_of_getElem? h, by simp [openAt, hc]⟩
/-- The last number of a thing is closed. -/
theorem ei_close {A : AS} {m i : Nat} (H : ES A.s (usA A) m) (C : CloBut A i) : EI (closeA A i) m := by
  unfold closeA
  split
  · rename_i h
    exact ⟨H, fun j x hj => C j x (fun e => by rw [e, h] at hj; cases hj) hj⟩
  · rename_i t ht
    obtain ⟨wh, mm⟩ := t
    have hno : (∀ x, wh ≠ .file x) → Clo A := fun hn j x hj => C j x (fun e => by
      rw [e, ht] at hj
      injection hj with hj
      injection hj with hj _
      exact hn x hj) hj
    cases wh with
    | file x =>
      refine ⟨?_, fun j z hj => ?_⟩
      · show ES (xclS A.s x) (usA { setWh A i (.file { x with cl := true }) with s := xclS A.s x }) m
        have hu := fun k => us_wh ht (.file { x with cl := true }) k
        have e1 : ∀ k, openAt k ⟨.file { x with cl := true }, mm⟩ = false := fun k => rfl
        cases hc : x.cl with
        | true =>
          unfold xclS
          rw [hc, if_pos rfl]
          refine H.us (fun k => ?_)
          have h1 := hu k
          have e2 : openAt k ⟨.file x, mm⟩ = false := by show (!x.cl && _) = false; rw [hc]; rfl
          rw [e1, e2] at h1
          show usA (setWh A i _) k = usA A k
          simpa using h1
        | false =>
          unfold xclS
          rw [hc, if_neg (by decide)]
          have hp := us_pos ht hc
          have hn1 : x.node ≠ 1 := fun e => by
            have := H.one
            rw [e] at hp
            omega
          refine (es_loose H hn1 hp).us (fun k => ?_)
          have h1 := hu k
          have e2 : openAt k ⟨.file x, mm⟩ = decide (x.node = k) := by show (!x.cl && _) = _; rw [hc]; rfl
          rw [e1, e2] at h1
          show usA (setWh A i _) k = _
          by_cases e : k = x.node
          · subst e
            rw [if_pos (by simp)] at h1
            rw [if_pos rfl]
            simp at h1
            omega
          · rw [if_neg (by simp; exact fun h => e h.symm)] at h1
            rw [if_neg e]
            simp at h1
            omega
      · have hj : (setWh A i (.file { x with cl := true })).th[j]? = some ⟨.file z, 0⟩ := hj
        rw [setWh_th ht] at hj
        rcases get_set hj with ⟨_, e⟩ | ⟨hne, hj⟩
        · injection e with e1 _
          injection e1 with e1
          rw [e1]
        · exact C j z hne hj
    | rd p => exact EI.of ⟨H, hno (fun x => by simp)⟩ (setPp_s _ _ _).1 (setPp_s _ _ _).2
    | wr p => exact EI.of ⟨H, hno (fun x => by simp)⟩ (setPp_s _ _ _).1 (setPp_s _ _ _).2
    | tape t => exact ⟨H, hno (fun x => by simp)⟩
    | sink p => exact ⟨H, hno (fun x => by simp)⟩
theorem ei_drop {A : AS} {m : Nat} (H : EI A m) (k : Nat) (fd : Int) : EI (dropA A k fd) m := by
  unfold dropA
  split
  · exact H
  · rename_i i _
    split
    · exact H
    · rename_i t ht
      have ht2 : (putA A k fd none).th[i]? = some t := ht
      have hth : ∀ mm, (manyA (putA A k fd none) i mm).th = A.th.set i ⟨t.wh, mm⟩ := fun mm => by rw [manyA_th ht2]; rfl
      have hs : ∀ mm, (manyA (putA A k fd none) i mm).s = A.s := fun mm => (row_many _ i mm).2
      have hes : ∀ mm, ES (manyA (putA A k fd none) i mm).s (usA (manyA (putA A k fd none) i mm)) m := fun mm => by
        rw [hs]
        exact H.es.us (fun z => us_many (putA A k fd none) i mm z)
      split
      · refine ei_close (hes 0) (fun j x hne hj => ?_)
        rw [hth] at hj
        rcases get_set hj with ⟨e, _⟩ | ⟨_, hj⟩
        · exact absurd e hne
        · exact H.clo j x hj
      · rename_i h1
        refine ⟨hes _, fun j x hj => ?_⟩
        rw [hth] at hj
        rcases get_set hj with ⟨rfl, e⟩ | ⟨_, hj⟩
        · injection e with e1 e2
          have hm : t.many = 0 := by omega
          obtain ⟨wh, mm⟩ := t
          subst e1
          have hm : mm = 0 := hm
          subst hm
          exact H.clo j x ht
        · exact H.clo j x hj
theorem ei_dup {A : AS} {m : Nat} (H : EI A m) (k : Nat) (a b : Int) : EI (dupA A k a b) m := by
  unfold dupA
  split
  · exact H
  · split
    · exact ei_take (ei_drop H k b) k _ b
    · exact H
theorem ei_frk {A : AS} {m : Nat} (H : EI A m) (k : Nat) : EI (frkA A k) m := by
  unfold frkA frkTo
  have k2 : ∀ (l : List (Option Nat)) (q : Nat) (ns : List Nat) (B : AS), EI B m → EI (ns.foldl (fun A (j : Nat) => match (l[j]?).join with | none => A | some i => takeA A q (j : Int) i) B) m := fun l q ns => by
    induction ns with
    | nil => exact fun B hB => hB
    | cons a ns ih =>
      intro B hB
      rw [List.foldl_cons]
      refine ih _ ?_
      split
      · exact hB
      · exact ei_take hB q _ _
  exact k2 _ _ _ _ (H.of rfl rfl)
theorem ei_end {A : AS} {m : Nat} (H : EI A m) (k : Nat) : EI (enA A k) m := by
  unfold enA enTo
  have k2 : ∀ (ns : List Nat) (B : AS), EI B m → EI (ns.foldl (fun A (j : Nat) => dropA A k (j : Int)) B) m := fun ns => by
    induction ns with
    | nil => exact fun B hB => hB
    | cons a ns ih =>
      intro B hB
      rw [List.foldl_cons]
      exact ih _ (ei_drop hB k _)
  exact k2 _ _ H
theorem ei_tap {A : AS} {m : Nat} (H : EI A m) (k : Nat) (fd : Int) (t : List UInt8) : EI (tapA A k fd t) m := by
  unfold tapA
  split
  · exact ei_new H (fun x => by simp) k fd
  · exact H
theorem ei_sin {A : AS} {m : Nat} (H : EI A m) (k : Nat) (fd : Int) : EI (sinA A k fd) m := by
  unfold sinA
  split
  · exact ei_new (A := nwSk A) (H.of rfl rfl) (fun x => by simp) k fd
  · exact H
theorem ei_pip {A : AS} {m : Nat} (H : EI A m) (k : Nat) : EI (pipA A k) m := by
  unfold pipA
  generalize numsL (row A k) false = ns
  match ns with
  | [] => exact H
  | [_] => exact H
  | a :: c :: r =>
    show EI (takeA (nwA (takeA (nwA (nwPp A) (.rd A.pp.length)) k (a : Int) A.th.length) (.wr A.pp.length)) k (c : Int) (A.th.length + 1)) m
    have h1 := ei_new (A := nwPp A) (H.of rfl rfl) (y := .rd A.pp.length) (fun x => by simp) k (a : Int)
    have h2 := ei_new h1 (y := .wr A.pp.length) (fun x => by simp) k (c : Int)
    have e : (takeA (nwA (nwPp A) (.rd A.pp.length)) k (a : Int) (nwPp A).th.length).th.length = A.th.length + 1 := by
      rw [take_len]
      show (A.th ++ [_]).length = _
      simp
    rw [e] at h2
    exact h2

end Go.Proofs.YtemologkibcdoaaGreatDoor

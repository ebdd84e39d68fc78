/-
  NamesTree, without memory: where a directory's names, `.` and `..` lead.
-/
import Derived.Test.YtghidcohgkajaaaGreatDoorNMovP
import Derived.Test.YtghidcohgkajaaaGreatDoorM17
namespace Go.Proofs.YtghidcohgkajaaaGreatDoor

theorem walk_dot {s : NS} {d : Int} (h : isD s d = true) : walkN s d [46] true = (d, 0) := by
  unfold walkN
  rw [if_pos h]
  have e : goesN s 8 d [46] true 8 = (d, 0, 8) := by
    unfold goesN
    rw [if_neg (by decide), if_neg (by decide), if_neg (by decide)]
    show stepN _ s d [46] true 8 = _
    unfold stepN
    rw [if_neg (by rw [h]; decide), if_pos (.inr rfl)]
  rw [e]
theorem walk_up {s : NS} {d : Int} (h : isD s d = true) (h0 : s.par d ≠ 0) : walkN s d [46, 46] true = (s.par d, 0) := by
  unfold walkN
  rw [if_pos h]
  have e : goesN s 8 d [46, 46] true 8 = (s.par d, 0, 8) := by
    unfold goesN
    rw [if_neg (by decide), if_neg (by decide), if_neg (by decide)]
    show stepN _ s d [46, 46] true 8 = _
    unfold stepN
    rw [if_neg (by rw [h]; decide), if_neg (by decide), if_pos rfl, if_neg h0]
  rw [e]
theorem walk_name {s : NS} {n : Nat} (K : NOk s n) {x : Nm} (hx : x ∈ s.L) : walkN s x.dir x.name false = (x.node, 0) := by
  have hd : isD s x.dir = true := decide_eq_true (K.inv.dirs x hx).1
  obtain ⟨n0, n1, n2, n3, n4⟩ := K.nm x hx
  have hf : findN s x.dir x.name = x.node := find_mem K.inv.srt hx
  have h2 := K.inv.there hx
  unfold walkN
  rw [if_pos hd, goes_plain n4, if_neg n0, if_neg (by omega), if_neg (by rw [hd]; decide), if_neg n1, if_neg n2, if_neg (by omega), hf, if_neg (by omega)]

end Go.Proofs.YtghidcohgkajaaaGreatDoor

/-
  ParsePlaces: the law's own walk.
-/
import Derived.Test.YtnamineofpeahaaGreatDoorPaPlc
import Derived.Test.YtnamineofpeahaaGreatDoorM35
namespace Go.Proofs.YtnamineofpeahaaGreatDoor
open Go.RowKit

set_option maxRecDepth 20000 in
set_option maxHeartbeats 4000000 in
theorem parseplaces_walk (s : ByteArray) (w : World) (he : AEnv w) :
 Calls Tryz.prog 5 #[.string s] w fun e w' => e = .returned (.bool true) ∧ Below w.heap.size w w' := by
 have HE := hide he
 clear he
 by_cases hb : 1000 < s.size
 ·have hb' : (1000 : Int) < (s.size : Int) := by omega
  go_enter Tryz.func5, Tryz.ntmps5
  go_wp2_with fail
  refine (awake6_any w (uh HE)).mono ?_
  rintro e w1 ⟨rfl, b1⟩
  go_wp2
  go_ret
  exact ⟨rfl, b1⟩
 ·have hb' : ¬ (1000 : Int) < (s.size : Int) := by omega
  have hlen := data_len s
  have HP := hide (parse_env s.data.toList w (by rw [hlen]; omega) (uh HE))
  have HR := prsL_place s.data.toList (by rw [hlen]; omega)
  rw [hlen] at HR
  rw [BA_of] at HP
  obtain ⟨p, hp⟩ : ∃ p, p = (prsL s.data.toList).2.1 := ⟨_, rfl⟩
  obtain ⟨x, hx⟩ : ∃ x, x = (prsL s.data.toList).2.2 := ⟨_, rfl⟩
  rw [← hp, ← hx] at HP HR
  clear hp hx
  go_enter Tryz.func5, Tryz.ntmps5
  go_wp2_with fail
  refine (uh HP).mono ?_
  rintro e w1 ⟨ad, n, cap, rfl, h1⟩
  have B1 := hide (uh h1).1
  have HE1 := hide ((uh HE).below (uh h1).1)
  clear h1 HP
  rcases HR with ⟨rfl, rfl⟩ | ⟨hE, h0, hle⟩
  ·go_wp2_with fail
   refine (awake6_any w1 (uh HE1)).mono ?_
   rintro e w3 ⟨rfl, b3⟩
   have B3 := hide b3
   clear b3
   go_wp2
   go_ret
   exact ⟨rfl, (uh B1).trans ((uh B3).mono (uh B1).size)⟩
  ·rcases hE with rfl | rfl | rfl | rfl
   all_goals
    go_wp2_with fail
    refine (awake6_any w1 (uh HE1)).mono ?_
    rintro e w3 ⟨rfl, b3⟩
    have B3 := hide b3
    clear b3
    go_wp2
    go_ret
    exact ⟨rfl, (uh B1).trans ((uh B3).mono (uh B1).size)⟩

end Go.Proofs.YtnamineofpeahaaGreatDoor

/-
  ParseShaped: the law's own walk.
-/
import Derived.Test.YtnamineofpeahaaGreatDoorPaShB
import Derived.Test.YtnamineofpeahaaGreatDoorPaShIo
namespace Go.Proofs.YtnamineofpeahaaGreatDoor
open Go.RowKit

set_option maxRecDepth 20000 in
set_option maxHeartbeats 4000000 in
theorem parseshaped_walk (s : ByteArray) (w : World) (he : AEnv w) :
 Calls Tryz.prog 6 #[.string s] w fun e w' => e = .returned (.bool true) ∧ Below w.heap.size w w' := by
 have HE := hide he
 clear he
 by_cases hb : 1000 < s.size
 ·have hb' : (1000 : Int) < (s.size : Int) := by omega
  go_enter Tryz.func6, Tryz.ntmps6
  go_wp2_with fail
  refine (awake6_any w (uh HE)).mono ?_
  rintro e w1 ⟨rfl, b1⟩
  go_wp2
  go_ret
  exact ⟨rfl, b1⟩
 ·have hb' : ¬ (1000 : Int) < (s.size : Int) := by omega
  have hlen := data_len s
  have HP := hide (parse_env s.data.toList w (by rw [hlen]; omega) (uh HE))
  have hs := prsL_sh s.data.toList (lexL_few s.data.toList (by rw [hlen]; omega)).1 (lexL_iq _)
  have HAL : Hid (AllOk (prsL s.data.toList).1) := hide (all_of _ hs.2 (fun c hc => alw_of (hs.1 c hc)))
  rw [BA_of] at HP
  obtain ⟨R, hR⟩ : ∃ R, R = prsL s.data.toList := ⟨_, rfl⟩
  rw [← hR] at HP HAL
  clear hR hs hlen
  go_enter Tryz.func6, Tryz.ntmps6
  go_wp2_with fail
  refine (uh HP).mono ?_
  rintro e w1 ⟨ad, n, cap, rfl, h1⟩
  have B1 := hide (uh h1).1
  have HA1 := hide (uh HAL w1 _ _ (uh h1).2 (fun k hk => hk.2))
  have HE1 := hide ((uh HE).below (uh h1).1)
  clear h1 HP
  go_wp2_with fail
  refine (uh HA1).mono ?_
  rintro e w2 ⟨rfl, b2⟩
  have B2 := hide ((uh B1).trans (b2.mono (uh B1).size))
  have HE2 := hide ((uh HE1).below b2)
  clear b2 HA1
  go_wp2_with fail
  refine (awake6_any w2 (uh HE2)).mono ?_
  rintro e w3 ⟨rfl, b3⟩
  have B3 := hide b3
  clear b3
  go_wp2
  go_ret
  exact ⟨rfl, (uh B2).trans ((uh B3).mono (uh B2).size)⟩

end Go.Proofs.YtnamineofpeahaaGreatDoor

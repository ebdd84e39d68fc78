/-
  The contract of the document's 'is'.
-/
import Derived.Test.YtegaonlpbcpobaaPat
namespace Go.Proofs.Ytegaonlpbcpobaa
open Go.RowKit

set_option maxHeartbeats 1000000 in
theorem ris_any (n : Nat) (s : ByteArray) (v : Value) (q : List Bool) (i : Nat) (c : Int) (w : World) (hq : QRow n w v q) :
    Calls Try.prog 24 #[.string s, v, .int .i64 (i : Int), .int .u8 c] w fun e w' => e = .returned (.bool (plainF s q i c)) ∧ w' = w := by
  obtain ⟨a, cap, rfl, hm, hr⟩ := hq
  by_cases hi : i < s.size
  · by_cases hc : ((s[i].toNat : Int) = c)
    · by_cases hq : i < q.length
      · rcases hr with hr | ⟨b, o, rfl, _, hcell⟩
        · simp [hr] at hq
        have hck := hcell i hq
        rcases Bool.eq_false_or_eq_true q[i] with hb | hb
        all_goals
          rw [hb] at hck
          have hcb : ((s[i].toNat : Int) == c) = true := by simpa using hc
          clear hcell
          go_enter Try.func24, Try.ntmps24
          go_wp2
          go_ret
          exact ⟨ret_bool (by unfold plainF; rw [sb_eq hi, List.getElem?_eq_getElem hq, Option.getD_some, hb]; simp [hi, hc, hq]), rfl⟩
      · have hcb : ((s[i].toNat : Int) == c) = true := by simpa using hc
        clear hr
        go_enter Try.func24, Try.ntmps24
        go_wp2
        go_ret
        exact ⟨ret_bool (by unfold plainF; rw [sb_eq hi, List.getElem?_eq_none (by omega)]; simp [hi, hc]), rfl⟩
    · have hcb : ((s[i].toNat : Int) == c) = false := by rw [beq_eq_false_iff_ne]; exact hc
      have hcn : ((s[i].toNat : Int) != c) = true := by simpa using hc
      clear hr
      go_enter Try.func24, Try.ntmps24
      go_wp2
      go_ret
      exact ⟨ret_bool (by unfold plainF; rw [sb_eq hi]; simp [hi, hc]), rfl⟩
  · clear hr
    go_enter Try.func24, Try.ntmps24
    go_wp2
    go_ret
    exact ⟨ret_bool (by unfold plainF; simp [hi]), rfl⟩

end Go.Proofs.Ytegaonlpbcpobaa

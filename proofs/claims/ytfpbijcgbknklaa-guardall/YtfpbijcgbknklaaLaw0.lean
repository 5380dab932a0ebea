/-
  Contracts of the laws' own helpers: within, Text, known.
-/
import Derived.Test.YtfpbijcgbknklaaRef3
namespace Go.Proofs.Ytfpbijcgbknklaa
open Go.RowKit Plait
set_option maxRecDepth 100000
set_option linter.unusedVariables false

theorem within_any (a n : Int) (w : World) (hn : 0 < n) (hn2 : n ≤ 1099511627776) :
    Calls Try.prog 17 #[.int .i64 a, .int .i64 n] w fun e w' => e = .returned (.int .i64 (a % n)) ∧ w = w' := by
  have b1 : 0 ≤ a % n := Int.emod_nonneg _ (by omega)
  have b2 : a % n < n := Int.emod_lt_of_pos _ hn
  by_cases h0 : 0 ≤ a
  · go_enter Try.func17, Try.ntmps17
    go_wp2
    go_ret
    exact ⟨rfl, rfl⟩
  · have h1 : a.tmod n = -((-a) % n) := by
      rw [show a = -(-a) by omega, Int.neg_tmod, Int.tmod_eq_emod_of_nonneg (by omega)]; simp
    have c1 : 0 ≤ (-a) % n := Int.emod_nonneg _ (by omega)
    have c2 : (-a) % n < n := Int.emod_lt_of_pos _ hn
    by_cases hz : (-a) % n = 0
    · have h2 : a.tmod n = 0 := by rw [h1, hz]; rfl
      have HF := Lib.hid (show (0 : Int) = a % n by
        have : n ∣ -a := Int.dvd_of_emod_eq_zero hz
        exact (Int.emod_eq_zero_of_dvd (Int.dvd_neg.1 this)).symm)
      clear h1 hz c1 c2 b1 b2
      go_enter Try.func17, Try.ntmps17
      go_wp2
      go_ret
      exact ⟨ret_int HF.out, rfl⟩
    · obtain ⟨r, hr⟩ : ∃ r, r = (-a) % n := ⟨_, rfl⟩
      rw [← hr] at h1 c1 c2 hz
      have HF := Lib.hid (show -r + n = a % n by
        have e := Int.emod_add_mul_ediv (-a) n
        rw [← hr] at e
        have e2 : a = (-r + n) + n * (-((-a) / n) - 1) := by rw [Int.mul_sub, Int.mul_neg]; omega
        rw [e2, Int.add_mul_emod_self_left]
        exact (Int.emod_eq_of_lt (by omega) (by omega)).symm)
      clear hr b1 b2
      go_enter Try.func17, Try.ntmps17
      go_wp2
      go_ret
      exact ⟨ret_int HF.out, rfl⟩

end Go.Proofs.Ytfpbijcgbknklaa

/-
  Contracts of the eighth laws' own helpers: the chapter's example holds; numbers brought within a bound; one or nought.
-/
import Derived.Test.YtfpbijcgbknklaaDev31
import Derived.Test.YtfpbijcgbknklaaRef16
import Derived.Test.YtfpbijcgbknklaaLaw1
import Derived.Test.YtfpbijcgbknklaaLaw30
namespace Go.Proofs.Ytfpbijcgbknklaa
open Go.RowKit Plait
set_option maxRecDepth 100000
set_option linter.unusedVariables false

set_option maxHeartbeats 800000 in
theorem known8_any (w : World) :
    Calls Try.prog 7 #[] w fun e w' => e = .returned (.bool true) ∧ Below w.heap.size w w' := by
  have h1 : admitB ⟨6, 50, 0, 0, 0, []⟩ 1 1099511627776 = true := by decide
  have h2 : admitB ⟨6, 50, 0, 0, 0, []⟩ 4 100 = true := by decide
  have h3 : admitB ⟨6, 50, 0, 0, 0, []⟩ 4 101 = false := by decide
  have hok : Cf.Ok ⟨6, 50, 0, 0, 0, []⟩ := by constructor <;> simp
  go_enter Try.func7, Try.ntmps7
  go_wp2_with fail
  refine (gAdmits_any ⟨6, 50, 0, 0, 0, []⟩ none 0 1 1099511627776 _ hok).mono ?_
  rintro e wn ⟨rfl, hb⟩
  obtain ⟨hB, hK, hZ⟩ := boxed hb
  have hQ := hK.at
  clear hb
  rw [h1]
  go_wp2_with fail
  refine (gAdmits_any ⟨6, 50, 0, 0, 0, []⟩ none 0 4 100 _ hok).mono ?_
  rintro e wn ⟨rfl, hb⟩
  clear hQ
  obtain ⟨hB, hK, hZ⟩ := boxed_on hB hK hb
  have hQ := hK.at
  clear hb
  rw [h2]
  go_wp2_with fail
  refine (gAdmits_any ⟨6, 50, 0, 0, 0, []⟩ none 0 4 101 _ hok).mono ?_
  rintro e wn ⟨rfl, hb⟩
  clear hQ
  obtain ⟨hB, hK, hZ⟩ := boxed_on hB hK hb
  have hQ := hK.at
  clear hb
  rw [h3]
  go_wp2
  go_ret
  exact ⟨rfl, hB⟩

theorem within8_any (a n : Int) (w : World) (hn : 0 < n) (hn2 : n ≤ 1099511627776) :
    Calls Try.prog 10 #[.int .i64 a, .int .i64 n] w fun e w' => e = .returned (.int .i64 (a % n)) ∧ w = w' := by
  have b1 : 0 ≤ a % n := Int.emod_nonneg _ (by omega)
  have b2 : a % n < n := Int.emod_lt_of_pos _ hn
  by_cases h0 : 0 ≤ a
  · go_enter Try.func10, Try.ntmps10
    go_wp2
    go_ret
    exact ⟨rfl, rfl⟩
  · have h1 : a.tmod n = -((-a) % n) := by
      rw [show a = -(-a) by omega, Int.neg_tmod, Int.tmod_eq_emod_of_nonneg (by omega)]; simp
    have c1 : 0 ≤ (-a) % n := Int.emod_nonneg _ (by omega)
    have c2 : (-a) % n < n := Int.emod_lt_of_pos _ hn
    by_cases hz : (-a) % n = 0
    · have h2 : a.tmod n = 0 := by rw [h1, hz]; rfl
      have HF := Lib.hid (show (0 : Int) = a % n by
        have : n ∣ -a := Int.dvd_of_emod_eq_zero hz
        exact (Int.emod_eq_zero_of_dvd (Int.dvd_neg.1 this)).symm)
      clear h1 hz c1 c2 b1 b2
      go_enter Try.func10, Try.ntmps10
      go_wp2
      go_ret
      exact ⟨ret_int HF.out, rfl⟩
    · obtain ⟨r, hr⟩ : ∃ r, r = (-a) % n := ⟨_, rfl⟩
      rw [← hr] at h1 c1 c2 hz
      have HF := Lib.hid (show -r + n = a % n by
        have e := Int.emod_add_mul_ediv (-a) n
        rw [← hr] at e
        have e2 : a = (-r + n) + n * (-((-a) / n) - 1) := by rw [Int.mul_sub, Int.mul_neg]; omega
        rw [e2, Int.add_mul_emod_self_left]
        exact (Int.emod_eq_of_lt (by omega) (by omega)).symm)
      clear hr b1 b2
      go_enter Try.func10, Try.ntmps10
      go_wp2
      go_ret
      exact ⟨ret_int HF.out, rfl⟩

theorem one8_any (b : Bool) (w : World) :
    Calls Try.prog 15 #[.bool b] w fun e w' => e = .returned (.int .i64 (if b then 1 else 0)) ∧ w = w' := by
  cases b
  · go_enter Try.func15, Try.ntmps15
    go_wp2
    go_ret
    exact ⟨rfl, rfl⟩
  · go_enter Try.func15, Try.ntmps15
    go_wp2
    go_ret
    exact ⟨rfl, rfl⟩

end Go.Proofs.Ytfpbijcgbknklaa

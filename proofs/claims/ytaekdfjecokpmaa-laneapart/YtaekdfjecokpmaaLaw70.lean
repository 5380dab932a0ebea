/-
  Contracts of the laws' own helpers: the chapter's example holds; numbers brought within a bound.
-/
import Derived.Test.YtaekdfjecokpmaaDev30
import Derived.Test.YtaekdfjecokpmaaRef15
import Derived.Test.YtaekdfjecokpmaaLaw1
import Derived.Test.YtaekdfjecokpmaaMath3
import Derived.Test.YtaekdfjecokpmaaMath4
namespace Go.Proofs.Ytaekdfjecokpmaa
open Go.RowKit Plait
set_option maxRecDepth 100000
set_option linter.unusedVariables false

set_option maxHeartbeats 800000 in
theorem known7_any (w : World) :
    Calls Try.prog 9 #[] w fun e w' => e = .returned (.bool true) ∧ Below w.heap.size w w' := by
  have h1 : outL true [48, 49] [48, 48] = [48] := by decide
  have h2 : stepC false false 49 48 = 49 := by decide
  go_enter Try.func9, Try.ntmps9
  go_wp2_with fail
  refine (lNew_any false _).mono ?_
  rintro e w1 ⟨rfl, hw1⟩
  have hB : Below w.heap.size w w1 := by rw [hw1]; exact alloc_below w _
  have hK : Blk w1 w.heap.size 45 #[.bool false, .bool false] := by rw [hw1]; exact Blk.new w _ _
  clear hw1
  generalize hgg : w.heap.size = g at *
  go_wp2_with fail
  refine (lOut_any true [48, 49] [48, 48] _ (by simp) (by simp)).mono ?_
  rintro e w2 ⟨rfl, hb⟩
  have hK2 := hK.later hb
  have hB2 := hB.trans (hb.mono (by rw [← hgg] at hB ⊢; exact hB.size))
  rw [h1]
  clear hK hB hb
  go_wp2_with fail
  refine (lStep_any g false false 49 48 _ hK2).mono ?_
  rintro e w3 ⟨rfl, hk3, hg3⟩
  rw [h2]
  go_wp2
  go_ret
  subst hgg
  exact ⟨rfl, grown_below hB2 hg3 (Nat.le_refl _)⟩

theorem within7_any (a n : Int) (w : World) (hn : 0 < n) (hn2 : n ≤ 1099511627776) :
    Calls Try.prog 20 #[.int .i64 a, .int .i64 n] w fun e w' => e = .returned (.int .i64 (a % n)) ∧ w = w' := by
  have b1 : 0 ≤ a % n := Int.emod_nonneg _ (by omega)
  have b2 : a % n < n := Int.emod_lt_of_pos _ hn
  by_cases h0 : 0 ≤ a
  · go_enter Try.func20, Try.ntmps20
    go_wp2
    go_ret
    exact ⟨rfl, rfl⟩
  · have h1 : a.tmod n = -((-a) % n) := by
      rw [show a = -(-a) by omega, Int.neg_tmod, Int.tmod_eq_emod_of_nonneg (by omega)]; simp
    have c1 : 0 ≤ (-a) % n := Int.emod_nonneg _ (by omega)
    have c2 : (-a) % n < n := Int.emod_lt_of_pos _ hn
    by_cases hz : (-a) % n = 0
    · have h2 : a.tmod n = 0 := by rw [h1, hz]; rfl
      have HF := Lib.hid (show (0 : Int) = a % n by
        have : n ∣ -a := Int.dvd_of_emod_eq_zero hz
        exact (Int.emod_eq_zero_of_dvd (Int.dvd_neg.1 this)).symm)
      clear h1 hz c1 c2 b1 b2
      go_enter Try.func20, Try.ntmps20
      go_wp2
      go_ret
      exact ⟨ret_int HF.out, rfl⟩
    · obtain ⟨r, hr⟩ : ∃ r, r = (-a) % n := ⟨_, rfl⟩
      rw [← hr] at h1 c1 c2 hz
      have HF := Lib.hid (show -r + n = a % n by
        have e := Int.emod_add_mul_ediv (-a) n
        rw [← hr] at e
        have e2 : a = (-r + n) + n * (-((-a) / n) - 1) := by rw [Int.mul_sub, Int.mul_neg]; omega
        rw [e2, Int.add_mul_emod_self_left]
        exact (Int.emod_eq_of_lt (by omega) (by omega)).symm)
      clear hr b1 b2
      go_enter Try.func20, Try.ntmps20
      go_wp2
      go_ret
      exact ⟨ret_int HF.out, rfl⟩

end Go.Proofs.Ytaekdfjecokpmaa

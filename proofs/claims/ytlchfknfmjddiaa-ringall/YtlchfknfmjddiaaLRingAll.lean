/-
  RingAll' walk.
-/
import Derived.Test.YtlchfknfmjddiaaLaw40
namespace Go.Proofs.Ytlchfknfmjddiaa
open Go.RowKit Plait
set_option linter.unusedVariables false

set_option maxRecDepth 100000 in
set_option maxHeartbeats 12800000 in
theorem ringAll_walk (n a b d raw : Int) (w : World) (n1 : -9223372036854775808 ≤ n) (n2 : n ≤ 9223372036854775807) (a1 : -9223372036854775808 ≤ a) (a2 : a ≤ 9223372036854775807) (b1 : -9223372036854775808 ≤ b) (b2 : b ≤ 9223372036854775807) (d1 : -9223372036854775808 ≤ d) (d2 : d ≤ 9223372036854775807) (raw1 : -9223372036854775808 ≤ raw) (raw2 : raw ≤ 9223372036854775807) :
    Calls Try.prog 3 #[.int .i64 n, .int .i64 a, .int .i64 b, .int .i64 d, .int .i64 raw] w fun e w' => e = .returned (.bool true) ∧ Below w.heap.size w w' := by
  have hB : Below w.heap.size w w := Below.refl _ _
  obtain ⟨r1, r2⟩ := tmod_in a 1000 (by omega)
  go_enter Try.func3, Try.ntmps3
  go_wp2_with fail
  refine (known4_any _).mono ?_
  rintro e wn ⟨rfl, hb⟩
  replace hB := hB.trans (hb.mono hB.size)
  clear hb
  go_wp2_with fail
  refine (within4_any n 7 _ (by omega) (by omega)).mono ?_
  rintro e wl ⟨rfl, rfl⟩
  obtain ⟨m, hm⟩ : ∃ m, m = 6 + n % 7 := ⟨_, rfl⟩
  have m1 : 6 ≤ m := by omega
  have m2 : m ≤ 12 := by omega
  have z1 : IntKind.i64.wrap (6 + n % 7) = m := by rw [hm]; exact wrap_in _ (by omega) (by omega)
  clear hm
  go_wp2_with fail
  refine (within4_any a m _ (by omega) (by omega)).mono ?_
  rintro e wl ⟨rfl, rfl⟩
  have q3a : 0 ≤ a % m := Int.emod_nonneg _ (by omega)
  have q3b : a % m < m := Int.emod_lt_of_pos _ (by omega)
  generalize a % m = i at *
  go_wp2_with fail
  refine (within4_any b m _ (by omega) (by omega)).mono ?_
  rintro e wl ⟨rfl, rfl⟩
  have q4a : 0 ≤ b % m := Int.emod_nonneg _ (by omega)
  have q4b : b % m < m := Int.emod_lt_of_pos _ (by omega)
  generalize b % m = j at *
  go_wp2_with fail
  refine (within4_any d (2 * m) _ (by omega) (by omega)).mono ?_
  rintro e wl ⟨rfl, rfl⟩
  have q5a : 0 ≤ d % (2 * m) := Int.emod_nonneg _ (by omega)
  have q5b : d % (2 * m) < (2 * m) := Int.emod_lt_of_pos _ (by omega)
  generalize d % (2 * m) = k at *
  go_wp2_with fail
  refine (within4_any d 1073741824 _ (by omega) (by omega)).mono ?_
  rintro e wl ⟨rfl, rfl⟩
  have q6a : 0 ≤ d % 1073741824 := Int.emod_nonneg _ (by omega)
  have q6b : d % 1073741824 < 1073741824 := Int.emod_lt_of_pos _ (by omega)
  generalize d % 1073741824 = s at *
  obtain ⟨r, zr⟩ : ∃ r, a.tmod 1000 = r := ⟨_, rfl⟩
  rw [zr] at r1 r2
  go_wp2_with fail
  refine (gEnds_any m k _ (by omega) (by omega) (by omega) (by omega)).mono ?_
  rintro e wn ⟨rfl, hb⟩
  replace hB := hB.trans (hb.mono hB.size)
  clear hb
  go_wp2_with fail
  refine (rEnds_any m k _ (by omega) (by omega) (by omega) (by omega)).mono ?_
  rintro e wn ⟨rfl, hb⟩
  replace hB := hB.trans (hb.mono hB.size)
  clear hb
  go_wp2_with fail
  refine (gLink_any m i j _ (by omega) (by omega) ⟨by omega, by omega⟩ ⟨by omega, by omega⟩).mono ?_
  rintro e wn ⟨rfl, hb⟩
  replace hB := hB.trans (hb.mono hB.size)
  clear hb
  go_wp2_with fail
  refine (rLink_any m i j _ m1 m2).mono ?_
  rintro e wn ⟨rfl, hb⟩
  replace hB := hB.trans (hb.mono hB.size)
  clear hb
  go_wp2_with fail
  refine (gLink_any m raw j _ (by omega) (by omega) ⟨by omega, by omega⟩ ⟨by omega, by omega⟩).mono ?_
  rintro e wn ⟨rfl, hb⟩
  replace hB := hB.trans (hb.mono hB.size)
  clear hb
  go_wp2_with fail
  refine (rLink_any m raw j _ m1 m2).mono ?_
  rintro e wn ⟨rfl, hb⟩
  replace hB := hB.trans (hb.mono hB.size)
  clear hb
  go_wp2_with fail
  refine (gAt_any m i s _ (by omega) (by omega) ⟨by omega, by omega⟩ ⟨by omega, by omega⟩).mono ?_
  rintro e wn ⟨rfl, hb⟩
  replace hB := hB.trans (hb.mono hB.size)
  clear hb
  go_wp2_with fail
  refine (rAt_any m i s _ (by omega) (by omega) (by omega) (by omega) (by omega) (by omega)).mono ?_
  rintro e wl ⟨rfl, rfl⟩
  go_wp2_with fail
  refine (gAt_any m _ _ _ (by omega) (by omega) ⟨by omega, by omega⟩ ⟨by omega, by omega⟩).mono ?_
  rintro e wn ⟨rfl, hb⟩
  replace hB := hB.trans (hb.mono hB.size)
  clear hb
  go_wp2_with fail
  refine (rAt_any m _ _ _ (by omega) (by omega) (by omega) (by omega) (by omega) (by omega)).mono ?_
  rintro e wl ⟨rfl, rfl⟩
  go_wp2_with fail
  refine (gDist_any m i j 1 _ (by omega) (by omega) ⟨by omega, by omega⟩ ⟨by omega, by omega⟩ ⟨by omega, by omega⟩ ⟨by omega, by omega⟩).mono ?_
  rintro e wn ⟨rfl, hb⟩
  replace hB := hB.trans (hb.mono hB.size)
  clear hb
  go_wp2_with fail
  refine (rDist_any m i j 1 _ (by omega) (by omega) (by omega) (by omega) (by omega) (by omega) (by omega)).mono ?_
  rintro e wl ⟨rfl, rfl⟩
  go_wp2_with fail
  refine (gDist_any m i j (-1) _ (by omega) (by omega) ⟨by omega, by omega⟩ ⟨by omega, by omega⟩ ⟨by omega, by omega⟩ ⟨by omega, by omega⟩).mono ?_
  rintro e wn ⟨rfl, hb⟩
  replace hB := hB.trans (hb.mono hB.size)
  clear hb
  go_wp2_with fail
  refine (rDist_any m i j (-1) _ (by omega) (by omega) (by omega) (by omega) (by omega) (by omega) (by omega)).mono ?_
  rintro e wl ⟨rfl, rfl⟩
  go_wp2
  go_ret
  exact ⟨rfl, hB⟩

end Go.Proofs.Ytlchfknfmjddiaa

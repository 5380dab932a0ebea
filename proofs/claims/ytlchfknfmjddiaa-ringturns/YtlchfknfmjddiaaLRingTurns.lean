/-
  RingTurns' walk.
-/
import Derived.Test.YtlchfknfmjddiaaLaw40
namespace Go.Proofs.Ytlchfknfmjddiaa
open Go.RowKit Plait
set_option linter.unusedVariables false

theorem turn_sum (n i a b : Int) : ((i + a) % n + b) % n = (i + (a + b)) % n := by rw [Int.emod_add_emod]; congr 1; omega
theorem turn_round (n i : Int) (h0 : 0 ≤ i) (h1 : i < n) : (i + n) % n = i := by rw [Int.add_emod_right]; exact Int.emod_eq_of_lt h0 h1
theorem turn_back (n i a : Int) (h0 : 0 ≤ i) (h1 : i < n) : ((i + a) % n + -a) % n = i := by rw [turn_sum]; rw [show i + (a + -a) = i by omega]; exact Int.emod_eq_of_lt h0 h1

set_option maxHeartbeats 3200000 in
theorem ringTurns_walk (n i a b : Int) (w : World) (n1 : -9223372036854775808 ≤ n) (n2 : n ≤ 9223372036854775807) (i1 : -9223372036854775808 ≤ i) (i2 : i ≤ 9223372036854775807) (a1 : -9223372036854775808 ≤ a) (a2 : a ≤ 9223372036854775807) (b1 : -9223372036854775808 ≤ b) (b2 : b ≤ 9223372036854775807) :
    Calls Try.prog 8 #[.int .i64 n, .int .i64 i, .int .i64 a, .int .i64 b] w fun e w' => e = .returned (.bool true) ∧ Below w.heap.size w w' := by
  have hB : Below w.heap.size w w := Below.refl _ _
  go_enter Try.func8, Try.ntmps8
  go_wp2_with fail
  refine (known4_any _).mono ?_
  rintro e wn ⟨rfl, hb⟩
  replace hB := hB.trans (hb.mono hB.size)
  clear hb
  go_wp2_with fail
  refine (within4_any n 7 _ (by omega) (by omega)).mono ?_
  rintro e wl ⟨rfl, rfl⟩
  obtain ⟨m, hm⟩ : ∃ m, m = 6 + n % 7 := ⟨_, rfl⟩
  have m1 : 6 ≤ m := by omega
  have m2 : m ≤ 12 := by omega
  have z1 : IntKind.i64.wrap (6 + n % 7) = m := by rw [hm]; exact wrap_in _ (by omega) (by omega)
  clear hm
  obtain ⟨x, hx⟩ : ∃ x, x = a % 2000 - 1000 := ⟨_, rfl⟩
  obtain ⟨y, hy⟩ : ∃ y, y = b % 2000 - 1000 := ⟨_, rfl⟩
  have z2 : IntKind.i64.wrap (a % 2000 - 1000) = x := by rw [hx]; exact wrap_in _ (by omega) (by omega)
  have z3 : IntKind.i64.wrap (b % 2000 - 1000) = y := by rw [hy]; exact wrap_in _ (by omega) (by omega)
  have x1 : -1000 ≤ x := by omega
  have x2 : x < 1000 := by omega
  have y1 : -1000 ≤ y := by omega
  have y2 : y < 1000 := by omega
  clear hx hy
  go_wp2_with fail
  refine (within4_any i m _ (by omega) (by omega)).mono ?_
  rintro e wl ⟨rfl, rfl⟩
  have q1 : 0 ≤ i % m := Int.emod_nonneg _ (by omega)
  have q2 : i % m < m := Int.emod_lt_of_pos _ (by omega)
  generalize i % m = j at *
  go_wp2_with fail
  refine (within4_any a 2000 _ (by omega) (by omega)).mono ?_
  rintro e wl ⟨rfl, rfl⟩
  go_wp2_with fail
  refine (within4_any b 2000 _ (by omega) (by omega)).mono ?_
  rintro e wl ⟨rfl, rfl⟩
  have p1 : 0 ≤ (j + x) % m := Int.emod_nonneg _ (by omega)
  have p2 : (j + x) % m < m := Int.emod_lt_of_pos _ (by omega)
  have T1 := Lib.hid (turn_sum m j x y)
  have T2 := Lib.hid (turn_round m j q1 q2)
  have T3 := Lib.hid (turn_back m j x q1 q2)
  go_wp2_with fail
  refine (gAt_any m j x _ (by omega) (by omega) ⟨by omega, by omega⟩ ⟨by omega, by omega⟩).mono ?_
  rintro e wn ⟨rfl, hb⟩
  replace hB := hB.trans (hb.mono hB.size)
  clear hb
  go_wp2_with fail
  refine (gAt_any m ((j + x) % m) y _ (by omega) (by omega) ⟨by omega, by omega⟩ ⟨by omega, by omega⟩).mono ?_
  rintro e wn ⟨rfl, hb⟩
  replace hB := hB.trans (hb.mono hB.size)
  clear hb
  rw [T1.out]
  go_wp2_with fail
  refine (gAt_any m j (x + y) _ (by omega) (by omega) ⟨by omega, by omega⟩ ⟨by omega, by omega⟩).mono ?_
  rintro e wn ⟨rfl, hb⟩
  replace hB := hB.trans (hb.mono hB.size)
  clear hb
  go_wp2_with fail
  refine (gAt_any m j m _ (by omega) (by omega) ⟨by omega, by omega⟩ ⟨by omega, by omega⟩).mono ?_
  rintro e wn ⟨rfl, hb⟩
  replace hB := hB.trans (hb.mono hB.size)
  clear hb
  rw [T2.out]
  go_wp2_with fail
  refine (gAt_any m j x _ (by omega) (by omega) ⟨by omega, by omega⟩ ⟨by omega, by omega⟩).mono ?_
  rintro e wn ⟨rfl, hb⟩
  replace hB := hB.trans (hb.mono hB.size)
  clear hb
  go_wp2_with fail
  refine (gAt_any m _ _ _ (by omega) (by omega) ⟨by omega, by omega⟩ ⟨by omega, by omega⟩).mono ?_
  rintro e wn ⟨rfl, hb⟩
  replace hB := hB.trans (hb.mono hB.size)
  clear hb
  rw [T3.out]
  go_wp2
  go_ret
  exact ⟨rfl, hB⟩

end Go.Proofs.Ytlchfknfmjddiaa

/-
  RingSteps' walk.
-/
import Derived.Test.YtlchfknfmjddiaaLaw40
namespace Go.Proofs.Ytlchfknfmjddiaa
open Go.RowKit Plait
set_option linter.unusedVariables false

theorem dist_in (n a b d : Int) (hn : 0 < n) : 0 ≤ distI n a b d ∧ distI n a b d < n := by
  unfold distI; split <;> exact ⟨Int.emod_nonneg _ (by omega), Int.emod_lt_of_pos _ hn⟩

theorem steps_fin : ∀ n : Fin 7, ∀ i j : Fin 12, ∀ up : Bool, i.val < 6 + n.val → j.val < 6 + n.val →
    ((i.val : Int) + (if up then 1 else -1) * distI (6 + (n.val : Int)) i.val j.val (if up then 1 else -1)) % (6 + (n.val : Int)) = j.val ∧
    (i.val = j.val → distI (6 + (n.val : Int)) i.val j.val (if up then 1 else -1) = 0) ∧
    (i.val ≠ j.val → distI (6 + (n.val : Int)) i.val j.val (if up then 1 else -1) + distI (6 + (n.val : Int)) i.val j.val (if up then -1 else 1) = 6 + (n.val : Int)) ∧
    distI (6 + (n.val : Int)) i.val j.val (if up then 1 else -1) = distI (6 + (n.val : Int)) j.val i.val (if up then -1 else 1) := by decide +kernel

theorem steps_any (n i j : Int) (up : Bool) (h1 : 6 ≤ n) (h2 : n ≤ 12) (i1 : 0 ≤ i) (i2 : i < n) (j1 : 0 ≤ j) (j2 : j < n) :
    (i + (if up then 1 else -1) * distI n i j (if up then 1 else -1)) % n = j ∧ (i = j → distI n i j (if up then 1 else -1) = 0) ∧ (i ≠ j → distI n i j (if up then 1 else -1) + distI n i j (if up then -1 else 1) = n) ∧
    distI n i j (if up then 1 else -1) = distI n j i (if up then -1 else 1) := by
  have hf := steps_fin ⟨(n - 6).toNat, by omega⟩ ⟨i.toNat, by omega⟩ ⟨j.toNat, by omega⟩ up (by show i.toNat < 6 + (n - 6).toNat; omega) (by show j.toNat < 6 + (n - 6).toNat; omega)
  have e1 : 6 + (((n - 6).toNat : Nat) : Int) = n := by omega
  have e2 : ((i.toNat : Nat) : Int) = i := by omega
  have e3 : ((j.toNat : Nat) : Int) = j := by omega
  simp only [e1, e2, e3] at hf
  obtain ⟨f1, f2, f3, f4⟩ := hf
  exact ⟨f1, fun e => f2 (by rw [e]), fun e => f3 (by omega), f4⟩

set_option maxHeartbeats 6400000 in
theorem ringSteps_walk (n a b : Int) (up : Bool) (w : World) (n1 : -9223372036854775808 ≤ n) (n2 : n ≤ 9223372036854775807) (a1 : -9223372036854775808 ≤ a) (a2 : a ≤ 9223372036854775807) (b1 : -9223372036854775808 ≤ b) (b2 : b ≤ 9223372036854775807) :
    Calls Try.prog 5 #[.int .i64 n, .int .i64 a, .int .i64 b, .bool up] w fun e w' => e = .returned (.bool true) ∧ Below w.heap.size w w' := by
  have hB : Below w.heap.size w w := Below.refl _ _
  go_enter Try.func5, Try.ntmps5
  go_wp2_with fail
  refine (known4_any _).mono ?_
  rintro e wn ⟨rfl, hb⟩
  replace hB := hB.trans (hb.mono hB.size)
  clear hb
  go_wp2_with fail
  refine (within4_any n 7 _ (by omega) (by omega)).mono ?_
  rintro e wl ⟨rfl, rfl⟩
  obtain ⟨m, hm⟩ : ∃ m, m = 6 + n % 7 := ⟨_, rfl⟩
  have m1 : 6 ≤ m := by omega
  have m2 : m ≤ 12 := by omega
  have z1 : IntKind.i64.wrap (6 + n % 7) = m := by rw [hm]; exact wrap_in _ (by omega) (by omega)
  clear hm
  go_wp2_with fail
  refine (within4_any a m _ (by omega) (by omega)).mono ?_
  rintro e wl ⟨rfl, rfl⟩
  have q1 : 0 ≤ a % m := Int.emod_nonneg _ (by omega)
  have q2 : a % m < m := Int.emod_lt_of_pos _ (by omega)
  generalize a % m = i at *
  go_wp2_with fail
  refine (within4_any b m _ (by omega) (by omega)).mono ?_
  rintro e wl ⟨rfl, rfl⟩
  have q3 : 0 ≤ b % m := Int.emod_nonneg _ (by omega)
  have q4 : b % m < m := Int.emod_lt_of_pos _ (by omega)
  generalize b % m = j at *
  cases up
  · obtain ⟨f1, f2, f3, f4⟩ := steps_any m i j false m1 m2 q1 q2 q3 q4
    simp only [Bool.false_eq_true, if_false] at f1 f2 f3 f4
    rw [show i + -1 * distI m i j (-1) = i + -distI m i j (-1) by omega] at f1
    obtain ⟨y1, y2⟩ := dist_in m i j 1 (by omega)
    obtain ⟨l1, l2⟩ := dist_in m i j (-1) (by omega)
    have F1 := Lib.hid f1
    have F4 := Lib.hid f4
    clear f1 f4
    go_wp2_with fail
    refine (gDist_any m i j (-1) _ (by omega) (by omega) ⟨by omega, by omega⟩ ⟨by omega, by omega⟩ ⟨by omega, by omega⟩ ⟨by omega, by omega⟩).mono ?_
    rintro e wn ⟨rfl, hb⟩
    replace hB := hB.trans (hb.mono hB.size)
    clear hb
    have D := Lib.hid (fun w => gDist_any m i j 1 w)
    have D2 := Lib.hid (fun w => gDist_any m j i 1 w)
    rw [← F4.out] at D2
    generalize distI m i j (-1) = x at *
    generalize distI m i j 1 = y at *
    have d1 : decide (x < 0) = false := by simpa using l1
    have d2 : decide (m ≤ x) = false := by simpa using l2
    by_cases hij : i = j
    · have d3 : (i == j) = true := by simpa using hij
      have d4 : (x == 0) = true := by simpa using f2 hij
      clear hij f2 f3
      go_wp2_with fail
      refine (gAt_any m _ _ _ (by omega) (by omega) ⟨by omega, by omega⟩ ⟨by omega, by omega⟩).mono ?_
      rintro e wn ⟨rfl, hb⟩
      replace hB := hB.trans (hb.mono hB.size)
      clear hb
      rw [F1.out]
      go_wp2
      go_ret
      exact ⟨rfl, hB⟩
    · have d3 : (i == j) = false := by simpa using hij
      have d5 : (i != j) = true := by simpa using hij
      have F3 := Lib.hid (f3 hij)
      clear hij f2 f3
      go_wp2_with fail
      refine (gAt_any m _ _ _ (by omega) (by omega) ⟨by omega, by omega⟩ ⟨by omega, by omega⟩).mono ?_
      rintro e wn ⟨rfl, hb⟩
      replace hB := hB.trans (hb.mono hB.size)
      clear hb
      rw [F1.out]
      have d6 : (x + y == m) = true := by rw [F3.out]; simp
      go_wp2_with fail
      refine (D.out _ (by omega) (by omega) ⟨by omega, by omega⟩ ⟨by omega, by omega⟩ ⟨by omega, by omega⟩ ⟨by omega, by omega⟩).mono ?_
      rintro e wn ⟨rfl, hb⟩
      replace hB := hB.trans (hb.mono hB.size)
      clear hb
      go_wp2_with fail
      refine (D2.out _ (by omega) (by omega) ⟨by omega, by omega⟩ ⟨by omega, by omega⟩ ⟨by omega, by omega⟩ ⟨by omega, by omega⟩).mono ?_
      rintro e wn ⟨rfl, hb⟩
      replace hB := hB.trans (hb.mono hB.size)
      clear hb
      go_wp2
      go_ret
      exact ⟨rfl, hB⟩
  · obtain ⟨f1, f2, f3, f4⟩ := steps_any m i j true m1 m2 q1 q2 q3 q4
    simp only [if_true] at f1 f2 f3 f4
    rw [show i + 1 * distI m i j 1 = i + distI m i j 1 by omega] at f1
    obtain ⟨y1, y2⟩ := dist_in m i j (-1) (by omega)
    obtain ⟨l1, l2⟩ := dist_in m i j 1 (by omega)
    have F1 := Lib.hid f1
    have F4 := Lib.hid f4
    clear f1 f4
    go_wp2_with fail
    refine (gDist_any m i j 1 _ (by omega) (by omega) ⟨by omega, by omega⟩ ⟨by omega, by omega⟩ ⟨by omega, by omega⟩ ⟨by omega, by omega⟩).mono ?_
    rintro e wn ⟨rfl, hb⟩
    replace hB := hB.trans (hb.mono hB.size)
    clear hb
    have D := Lib.hid (fun w => gDist_any m i j (-1) w)
    have D2 := Lib.hid (fun w => gDist_any m j i (-1) w)
    rw [← F4.out] at D2
    generalize distI m i j 1 = x at *
    generalize distI m i j (-1) = y at *
    have d1 : decide (x < 0) = false := by simpa using l1
    have d2 : decide (m ≤ x) = false := by simpa using l2
    by_cases hij : i = j
    · have d3 : (i == j) = true := by simpa using hij
      have d4 : (x == 0) = true := by simpa using f2 hij
      clear hij f2 f3
      go_wp2_with fail
      refine (gAt_any m _ _ _ (by omega) (by omega) ⟨by omega, by omega⟩ ⟨by omega, by omega⟩).mono ?_
      rintro e wn ⟨rfl, hb⟩
      replace hB := hB.trans (hb.mono hB.size)
      clear hb
      rw [F1.out]
      go_wp2
      go_ret
      exact ⟨rfl, hB⟩
    · have d3 : (i == j) = false := by simpa using hij
      have d5 : (i != j) = true := by simpa using hij
      have F3 := Lib.hid (f3 hij)
      clear hij f2 f3
      go_wp2_with fail
      refine (gAt_any m _ _ _ (by omega) (by omega) ⟨by omega, by omega⟩ ⟨by omega, by omega⟩).mono ?_
      rintro e wn ⟨rfl, hb⟩
      replace hB := hB.trans (hb.mono hB.size)
      clear hb
      rw [F1.out]
      have d6 : (x + y == m) = true := by rw [F3.out]; simp
      go_wp2_with fail
      refine (D.out _ (by omega) (by omega) ⟨by omega, by omega⟩ ⟨by omega, by omega⟩ ⟨by omega, by omega⟩ ⟨by omega, by omega⟩).mono ?_
      rintro e wn ⟨rfl, hb⟩
      replace hB := hB.trans (hb.mono hB.size)
      clear hb
      go_wp2_with fail
      refine (D2.out _ (by omega) (by omega) ⟨by omega, by omega⟩ ⟨by omega, by omega⟩ ⟨by omega, by omega⟩ ⟨by omega, by omega⟩).mono ?_
      rintro e wn ⟨rfl, hb⟩
      replace hB := hB.trans (hb.mono hB.size)
      clear hb
      go_wp2
      go_ret
      exact ⟨rfl, hB⟩

end Go.Proofs.Ytlchfknfmjddiaa

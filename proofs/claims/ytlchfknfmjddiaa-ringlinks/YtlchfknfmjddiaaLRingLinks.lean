/-
  RingLinks' walk.
-/
import Derived.Test.YtlchfknfmjddiaaLaw40
namespace Go.Proofs.Ytlchfknfmjddiaa
open Go.RowKit Plait
set_option linter.unusedVariables false

theorem ends_fin : ∀ n : Fin 7, ∀ k : Fin 24, k.val < 2 * (6 + n.val) → linkI (6 + (n.val : Int)) (endA (6 + (n.val : Int)) k.val) (endB (6 + (n.val : Int)) k.val) = ((k.val : Int), true) ∧ linkI (6 + (n.val : Int)) (endB (6 + (n.val : Int)) k.val) (endA (6 + (n.val : Int)) k.val) = ((k.val : Int), true) := by decide +kernel

theorem ends_any (n k : Int) (h1 : 6 ≤ n) (h2 : n ≤ 12) (k1 : 0 ≤ k) (k2 : k < 2 * n) : linkI n (endA n k) (endB n k) = (k, true) ∧ linkI n (endB n k) (endA n k) = (k, true) := by
  have hf := ends_fin ⟨(n - 6).toNat, by omega⟩ ⟨k.toNat, by omega⟩ (by show k.toNat < 2 * (6 + (n - 6).toNat); omega)
  have e1 : 6 + (((n - 6).toNat : Nat) : Int) = n := by omega
  have e2 : ((k.toNat : Nat) : Int) = k := by omega
  simp only [e1, e2] at hf
  exact hf

theorem near_fin : ∀ n : Fin 7, ∀ i j : Fin 12, i.val < 6 + n.val → j.val < 6 + n.val → (linkI (6 + (n.val : Int)) i.val j.val).2 = (min (distI (6 + (n.val : Int)) i.val j.val 1) (distI (6 + (n.val : Int)) i.val j.val (-1)) == 1 || min (distI (6 + (n.val : Int)) i.val j.val 1) (distI (6 + (n.val : Int)) i.val j.val (-1)) == 2) := by decide +kernel

theorem near_any (n i j : Int) (h1 : 6 ≤ n) (h2 : n ≤ 12) (i1 : 0 ≤ i) (i2 : i < n) (j1 : 0 ≤ j) (j2 : j < n) : (linkI n i j).2 = (min (distI n i j 1) (distI n i j (-1)) == 1 || min (distI n i j 1) (distI n i j (-1)) == 2) := by
  have hf := near_fin ⟨(n - 6).toNat, by omega⟩ ⟨i.toNat, by omega⟩ ⟨j.toNat, by omega⟩ (by show i.toNat < 6 + (n - 6).toNat; omega) (by show j.toNat < 6 + (n - 6).toNat; omega)
  have e1 : 6 + (((n - 6).toNat : Nat) : Int) = n := by omega
  have e2 : ((i.toNat : Nat) : Int) = i := by omega
  have e3 : ((j.toNat : Nat) : Int) = j := by omega
  simp only [e1, e2, e3] at hf
  exact hf

theorem endA_in2 (n k : Int) (k1 : 0 ≤ k) (k2 : k < 2 * n) : 0 ≤ endA n k ∧ endA n k < n := by unfold endA; split <;> omega

set_option maxRecDepth 100000 in
set_option maxHeartbeats 12800000 in
theorem ringLinks_walk (n a link : Int) (w : World) (n1 : -9223372036854775808 ≤ n) (n2 : n ≤ 9223372036854775807) (a1 : -9223372036854775808 ≤ a) (a2 : a ≤ 9223372036854775807) (link1 : -9223372036854775808 ≤ link) (link2 : link ≤ 9223372036854775807) :
    Calls Try.prog 4 #[.int .i64 n, .int .i64 a, .int .i64 link] w fun e w' => e = .returned (.bool true) ∧ Below w.heap.size w w' := by
  have hB : Below w.heap.size w w := Below.refl _ _
  go_enter Try.func4, Try.ntmps4
  go_wp2_with fail
  refine (known4_any _).mono ?_
  rintro e wn ⟨rfl, hb⟩
  replace hB := hB.trans (hb.mono hB.size)
  clear hb
  go_wp2_with fail
  refine (within4_any n 7 _ (by omega) (by omega)).mono ?_
  rintro e wl ⟨rfl, rfl⟩
  obtain ⟨m, hm⟩ : ∃ m, m = 6 + n % 7 := ⟨_, rfl⟩
  have m1 : 6 ≤ m := by omega
  have m2 : m ≤ 12 := by omega
  have z1 : IntKind.i64.wrap (6 + n % 7) = m := by rw [hm]; exact wrap_in _ (by omega) (by omega)
  clear hm
  go_wp2_with fail
  refine (within4_any a m _ (by omega) (by omega)).mono ?_
  rintro e wl ⟨rfl, rfl⟩
  have q3a : 0 ≤ a % m := Int.emod_nonneg _ (by omega)
  have q3b : a % m < m := Int.emod_lt_of_pos _ (by omega)
  generalize a % m = i at *
  go_wp2_with fail
  refine (within4_any link (2 * m) _ (by omega) (by omega)).mono ?_
  rintro e wl ⟨rfl, rfl⟩
  have q5a : 0 ≤ link % (2 * m) := Int.emod_nonneg _ (by omega)
  have q5b : link % (2 * m) < (2 * m) := Int.emod_lt_of_pos _ (by omega)
  generalize link % (2 * m) = k at *
  go_wp2_with fail
  refine (gEnds_any m k _ (by omega) (by omega) (by omega) (by omega)).mono ?_
  rintro e wn ⟨rfl, hb⟩
  replace hB := hB.trans (hb.mono hB.size)
  clear hb
  obtain ⟨e1, e2⟩ := ends_any m k m1 m2 q5a q5b
  obtain ⟨x1, x2⟩ := endA_in2 m k q5a q5b
  obtain ⟨y1, y2⟩ := endB_in m k (by omega)
  generalize endA m k = x at *
  generalize endB m k = y at *
  have E1 := Lib.hid e1
  have E2 := Lib.hid e2
  clear e1 e2
  go_wp2_with fail
  refine (gLink_any m x y _ (by omega) (by omega) ⟨by omega, by omega⟩ ⟨by omega, by omega⟩).mono ?_
  rintro e wn ⟨rfl, hb⟩
  replace hB := hB.trans (hb.mono hB.size)
  clear hb
  rw [E1.out]
  go_wp2_with fail
  refine (gLink_any m y x _ (by omega) (by omega) ⟨by omega, by omega⟩ ⟨by omega, by omega⟩).mono ?_
  rintro e wn ⟨rfl, hb⟩
  replace hB := hB.trans (hb.mono hB.size)
  clear hb
  rw [E2.out]
  go_wp2
  go_loopw [15, 16, 17, 18] (fun j _ _ _ w' => ∃ k : Nat, (k : Int) ≤ m ∧ j = .int .i64 k ∧ Below w.heap.size w w') (fun j _ _ _ _ => 12 - (intOf j).toNat)
  case atStart => exact ⟨0, by omega, rfl, hB⟩
  case round =>
    obtain ⟨j, hj, rfl, hB⟩ := hrel
    by_cases hlt : (j : Int) < m
    · have d1 : decide ((j : Int) < m) = true := by simpa using hlt
      have HN := Lib.hid (near_any m i j m1 m2 q3a q3b (by omega) hlt)
      go_wp2_with fail
      refine (gLink_any m i j _ (by omega) (by omega) ⟨by omega, by omega⟩ ⟨by omega, by omega⟩).mono ?_
      rintro e wn ⟨rfl, hb⟩
      replace hB := hB.trans (hb.mono hB.size)
      clear hb
      go_wp2_with fail
      refine (rDist_any m i (j : Int) 1 _ (by omega) (by omega) (by omega) (by omega) (by omega) (by omega) (by omega)).mono ?_
      rintro e wl ⟨rfl, rfl⟩
      go_wp2_with fail
      refine (rDist_any m i (j : Int) (-1) _ (by omega) (by omega) (by omega) (by omega) (by omega) (by omega) (by omega)).mono ?_
      rintro e wl ⟨rfl, rfl⟩
      generalize (linkI m i j).2 = is at *
      generalize (linkI m i j).1 = lk at *
      generalize distI m i j 1 = u at *
      generalize distI m i j (-1) = v at *
      by_cases hv : v < u
      · have dv : decide (v < u) = true := by simpa using hv
        have e := HN.out
        rw [show min u v = v by omega] at e
        clear HN
        cases c1 : (v == 1)
        · cases c2 : (v == 2)
          · rw [c1, c2] at e
            replace e : is = false := e
            subst e
            go_wp2
            go_roundw
            case rel => exact ⟨j + 1, by omega, by go_num, hB⟩
            case measure => simp [intOf]; omega
          · rw [c1, c2] at e
            replace e : is = true := e
            subst e
            go_wp2
            go_roundw
            case rel => exact ⟨j + 1, by omega, by go_num, hB⟩
            case measure => simp [intOf]; omega
        · rw [c1] at e
          replace e : is = true := e
          subst e
          go_wp2
          go_roundw
          case rel => exact ⟨j + 1, by omega, by go_num, hB⟩
          case measure => simp [intOf]; omega
      · have dv : decide (v < u) = false := by simpa using hv
        have e := HN.out
        rw [show min u v = u by omega] at e
        clear HN
        cases c1 : (u == 1)
        · cases c2 : (u == 2)
          · rw [c1, c2] at e
            replace e : is = false := e
            subst e
            go_wp2
            go_roundw
            case rel => exact ⟨j + 1, by omega, by go_num, hB⟩
            case measure => simp [intOf]; omega
          · rw [c1, c2] at e
            replace e : is = true := e
            subst e
            go_wp2
            go_roundw
            case rel => exact ⟨j + 1, by omega, by go_num, hB⟩
            case measure => simp [intOf]; omega
        · rw [c1] at e
          replace e : is = true := e
          subst e
          go_wp2
          go_roundw
          case rel => exact ⟨j + 1, by omega, by go_num, hB⟩
          case measure => simp [intOf]; omega
    · have d1 : decide ((j : Int) < m) = false := by simpa using hlt
      go_wp2
      go_ret
      exact ⟨rfl, hB⟩

end Go.Proofs.Ytlchfknfmjddiaa

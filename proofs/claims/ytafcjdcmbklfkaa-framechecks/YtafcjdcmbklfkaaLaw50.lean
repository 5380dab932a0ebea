/-
  plaitinglaw5's own helpers: within, Item, Few.
-/
import Derived.Test.YtafcjdcmbklfkaaFr7
namespace Go.Proofs.Ytafcjdcmbklfkaa
open Go.RowKit Plait
set_option linter.unusedVariables false

theorem within5_any (a n : Int) (w : World) (hn : 0 < n) (hn2 : n ≤ 1099511627776) :
    Calls Try.prog 19 #[.int .i64 a, .int .i64 n] w fun e w' => e = .returned (.int .i64 (a % n)) ∧ w = w' := by
  have b1 : 0 ≤ a % n := Int.emod_nonneg _ (by omega)
  have b2 : a % n < n := Int.emod_lt_of_pos _ hn
  by_cases h0 : 0 ≤ a
  · go_enter Try.func19, Try.ntmps19
    go_wp2
    go_ret
    exact ⟨rfl, rfl⟩
  · have h1 : a.tmod n = -((-a) % n) := by
      rw [show a = -(-a) by omega, Int.neg_tmod, Int.tmod_eq_emod_of_nonneg (by omega)]; simp
    have c1 : 0 ≤ (-a) % n := Int.emod_nonneg _ (by omega)
    have c2 : (-a) % n < n := Int.emod_lt_of_pos _ hn
    by_cases hz : (-a) % n = 0
    · have h2 : a.tmod n = 0 := by rw [h1, hz]; rfl
      have HF := Lib.hid (show (0 : Int) = a % n by
        have : n ∣ -a := Int.dvd_of_emod_eq_zero hz
        exact (Int.emod_eq_zero_of_dvd (Int.dvd_neg.1 this)).symm)
      clear h1 hz c1 c2 b1 b2
      go_enter Try.func19, Try.ntmps19
      go_wp2
      go_ret
      exact ⟨ret_int HF.out, rfl⟩
    · obtain ⟨r, hr⟩ : ∃ r, r = (-a) % n := ⟨_, rfl⟩
      rw [← hr] at h1 c1 c2 hz
      have HF := Lib.hid (show -r + n = a % n by
        have e := Int.emod_add_mul_ediv (-a) n
        rw [← hr] at e
        have e2 : a = (-r + n) + n * (-((-a) / n) - 1) := by rw [Int.mul_sub, Int.mul_neg]; omega
        rw [e2, Int.add_mul_emod_self_left]
        exact (Int.emod_eq_of_lt (by omega) (by omega)).symm)
      clear hr b1 b2
      go_enter Try.func19, Try.ntmps19
      go_wp2
      go_ret
      exact ⟨ret_int HF.out, rfl⟩

theorem few5_any (f : Fr) (a : Option Addr) (cap : Nat) (w : World) (hl : f.E.length ≤ 9223372036854775807) :
    Calls Try.prog 14 #[.agg #[.int .i64 f.K, .int .i64 f.R, .int .i64 f.S, .int .i64 f.P.K, .int .i64 f.P.V, .slice a f.E.length cap]] w fun e w' => e = .returned (.bool (decide ((f.E.length : Int) ≤ 30))) ∧ Below w.heap.size w w' := by
  go_enter Try.func14, Try.ntmps14
  go_wp2
  go_ret
  exact ⟨ret_bool (by simp), alloc_below _ _⟩

theorem tdiv3 (n : Int) (h1 : -9223372036854775808 ≤ n) (h2 : n ≤ 9223372036854775807) : -9223372036854775808 ≤ n.tdiv 3 ∧ n.tdiv 3 ≤ 9223372036854775807 := by
  rcases Int.le_total 0 n with h | h
  · rw [Int.tdiv_eq_ediv_of_nonneg h]; omega
  · have e : n.tdiv 3 = -((-n) / 3) := by rw [show n = -(-n) by omega, Int.neg_tdiv, Int.tdiv_eq_ediv_of_nonneg (by omega)]; simp
    rw [e]; omega

set_option maxHeartbeats 1600000 in
theorem item5_any (n : Int) (b : Bool) (w : World) (h1 : -9223372036854775808 ≤ n) (h2 : n ≤ 9223372036854775807) :
    Calls Try.prog 33 #[.int .i64 n, .bool b] w fun e w' => e = .returned (.agg #[.int .i64 (itemOf n b).K, .int .i64 (itemOf n b).V]) ∧ Below w.heap.size w w' := by
  obtain ⟨t1, t2⟩ := tdiv3 n h1 h2
  have hm0 : 0 ≤ n % 3 := by omega
  have hm3 : n % 3 < 3 := by omega
  have HW := Lib.hid (fun W => within5_any (n.tdiv 3) 256 W (by omega) (by omega))
  have HM := Lib.hid (fun W => within5_any n 3 W (by omega) (by omega))
  have HI := Lib.hid (show itemOf n b = if (if b && n % 3 == 0 then 2 else n % 3) = 2 then ⟨2, n.tdiv 3 % 256⟩ else ⟨n % 3, 0⟩ from rfl)
  generalize n.tdiv 3 % 256 = v at *
  rcases (by omega : n % 3 = 0 ∨ n % 3 = 1 ∨ n % 3 = 2) with h | h | h
  · rw [h] at HM HI
    cases b
    · have HF := Lib.hid (show itemOf n false = ⟨0, 0⟩ by rw [HI.out]; rfl)
      go_enter Try.func33, Try.ntmps33
      go_wp2_with fail
      refine (HM.out _).mono ?_
      rintro e wl ⟨rfl, rfl⟩
      go_wp2
      refine bodyPost_ret (v := .agg #[.int .i64 0, .int .i64 0]) (by simp [results, Try.results33, go_sem]) rfl ⟨by rw [HF.out], alloc_below _ _⟩
    · have HF := Lib.hid (show itemOf n true = ⟨2, v⟩ by rw [HI.out]; rfl)
      go_enter Try.func33, Try.ntmps33
      go_wp2_with fail
      refine (HM.out _).mono ?_
      rintro e wl ⟨rfl, rfl⟩
      go_wp2_with fail
      refine (HW.out _).mono ?_
      rintro e wl ⟨rfl, rfl⟩
      go_wp2
      refine bodyPost_ret (v := .agg #[.int .i64 2, .int .i64 v]) (by simp [results, Try.results33, go_sem]) rfl ⟨by rw [HF.out], alloc_below _ _⟩
  · rw [h] at HM HI
    have HF := Lib.hid (show itemOf n b = ⟨1, 0⟩ by rw [HI.out]; cases b <;> rfl)
    cases b
    all_goals
      go_enter Try.func33, Try.ntmps33
      go_wp2_with fail
      refine (HM.out _).mono ?_
      rintro e wl ⟨rfl, rfl⟩
      go_wp2
      refine bodyPost_ret (v := .agg #[.int .i64 1, .int .i64 0]) (by simp [results, Try.results33, go_sem]) rfl ⟨by rw [HF.out], alloc_below _ _⟩
  · rw [h] at HM HI
    have HF := Lib.hid (show itemOf n b = ⟨2, v⟩ by rw [HI.out]; cases b <;> rfl)
    cases b
    all_goals
      go_enter Try.func33, Try.ntmps33
      go_wp2_with fail
      refine (HM.out _).mono ?_
      rintro e wl ⟨rfl, rfl⟩
      go_wp2_with fail
      refine (HW.out _).mono ?_
      rintro e wl ⟨rfl, rfl⟩
      go_wp2
      refine bodyPost_ret (v := .agg #[.int .i64 2, .int .i64 v]) (by simp [results, Try.results33, go_sem]) rfl ⟨by rw [HF.out], alloc_below _ _⟩

end Go.Proofs.Ytafcjdcmbklfkaa

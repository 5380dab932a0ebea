/-
  Contracts of plaitingref4: what the document's own chapter 4 answers of rings.
-/
import Derived.Test.YtbghpkdkfbpmeaaRef5
import Derived.Test.YtbghpkdkfbpmeaaDev8
namespace Go.Proofs.Ytbghpkdkfbpmeaa
open Go.RowKit Plait
set_option maxRecDepth 100000
set_option linter.unusedVariables false

theorem rrest_any (a n : Int) (w : World) (hn : 0 < n) (hn2 : n ≤ 1099511627776) :
    Calls Try.prog 36 #[.int .i64 a, .int .i64 n] w fun e w' => e = .returned (.int .i64 (a % n)) ∧ w = w' := by
  have b1 : 0 ≤ a % n := Int.emod_nonneg _ (by omega)
  have b2 : a % n < n := Int.emod_lt_of_pos _ hn
  by_cases h0 : 0 ≤ a
  · go_enter Try.func36, Try.ntmps36
    go_wp2
    go_ret
    exact ⟨rfl, rfl⟩
  · have h1 : a.tmod n = -((-a) % n) := by
      rw [show a = -(-a) by omega, Int.neg_tmod, Int.tmod_eq_emod_of_nonneg (by omega)]; simp
    have c1 : 0 ≤ (-a) % n := Int.emod_nonneg _ (by omega)
    have c2 : (-a) % n < n := Int.emod_lt_of_pos _ hn
    by_cases hz : (-a) % n = 0
    · have h2 : a.tmod n = 0 := by rw [h1, hz]; rfl
      have HF := Lib.hid (show (0 : Int) = a % n by
        have : n ∣ -a := Int.dvd_of_emod_eq_zero hz
        exact (Int.emod_eq_zero_of_dvd (Int.dvd_neg.1 this)).symm)
      clear h1 hz c1 c2 b1 b2
      go_enter Try.func36, Try.ntmps36
      go_wp2
      go_ret
      exact ⟨ret_int HF.out, rfl⟩
    · obtain ⟨r, hr⟩ : ∃ r, r = (-a) % n := ⟨_, rfl⟩
      rw [← hr] at h1 c1 c2 hz
      have HF := Lib.hid (show -r + n = a % n by
        have e := Int.emod_add_mul_ediv (-a) n
        rw [← hr] at e
        have e2 : a = (-r + n) + n * (-((-a) / n) - 1) := by rw [Int.mul_sub, Int.mul_neg]; omega
        rw [e2, Int.add_mul_emod_self_left]
        exact (Int.emod_eq_of_lt (by omega) (by omega)).symm)
      clear hr b1 b2
      go_enter Try.func36, Try.ntmps36
      go_wp2
      go_ret
      exact ⟨ret_int HF.out, rfl⟩

theorem rAt_any (n i d : Int) (w : World) (hn : 0 < n) (hn2 : n ≤ 1099511627776) (h1 : -4611686018427387904 ≤ i) (h2 : i ≤ 4611686018427387903) (h3 : -4611686018427387904 ≤ d) (h4 : d ≤ 4611686018427387903) :
    Calls Try.prog 18 #[.int .i64 n, .int .i64 i, .int .i64 d] w fun e w' => e = .returned (.int .i64 ((i + d) % n)) ∧ w = w' := by
  go_enter Try.func18, Try.ntmps18
  go_wp2_with fail
  refine (rrest_any (i + d) n _ hn hn2).mono ?_
  rintro e wl ⟨rfl, rfl⟩
  go_wp2
  go_ret
  exact ⟨rfl, rfl⟩

theorem rEnds_any (n l : Int) (w : World) (hn : 0 < n) (hn2 : n ≤ 1099511627776) (hl : 0 ≤ l) (hl2 : l ≤ 1099511627776) :
    Calls Try.prog 24 #[.int .i64 n, .int .i64 l] w fun e w' => e = .returned (.tuple #[.int .i64 (endA n l), .int .i64 (endB n l)]) ∧ Below w.heap.size w w' := by
  by_cases h : l < n
  · have HA := Lib.hid (show l = endA n l by unfold endA; rw [if_pos h])
    have HB := Lib.hid (show (l + 1) % n = endB n l by unfold endB; rw [if_pos h])
    have d1 : decide (l < n) = true := by simpa using h
    go_enter Try.func24, Try.ntmps24
    go_wp2
    go_quiet (fail)
    go_wp2
    go_ret2
    exact ⟨ret_pair HA.out HB.out, below_drewN (Below.refl _ _) _⟩
  · have HA := Lib.hid (show l - n = endA n l by unfold endA; rw [if_neg h])
    have HB := Lib.hid (show (l - n + 2) % n = endB n l by unfold endB; rw [if_neg h])
    have d1 : decide (l < n) = false := by simpa using h
    go_enter Try.func24, Try.ntmps24
    go_wp2
    go_quiet (fail)
    go_wp2
    go_ret2
    exact ⟨ret_pair HA.out HB.out, below_drewN (Below.refl _ _) _⟩

/-- The loop that looks for a link. -/
def RLinkAt (n a b : Int) (w : World) (i : Value) (w' : World) : Prop := ∃ k : Nat, (k : Int) ≤ 2 * n ∧ i = .int .i64 k ∧ Below w.heap.size w w' ∧ ∀ j : Nat, j < k → joins n a b j = false

set_option maxHeartbeats 3200000 in
theorem rLink_any (n a b : Int) (w : World) (h1 : 6 ≤ n) (h2 : n ≤ 12) :
    Calls Try.prog 22 #[.int .i64 n, .int .i64 a, .int .i64 b] w fun e w' => e = .returned (.tuple #[.int .i64 (linkI n a b).1, .bool (linkI n a b).2]) ∧ Below w.heap.size w w' := by
  have HE := Lib.hid (linkI_linkR n a b h1 h2)
  go_enter Try.func22, Try.ntmps22
  go_wp2
  go_loopw [8, 9, 10] (fun i _ _ w' => RLinkAt n a b w i w') (fun i _ _ _ => 24 - (intOf i).toNat)
  case atStart => exact ⟨0, by omega, rfl, Below.refl _ _, fun j hj => absurd hj (by omega)⟩
  case round =>
    obtain ⟨k, hk, rfl, hb, hno⟩ := hrel
    have HN := Lib.hid hno
    clear hno
    by_cases hlt : (k : Int) < 2 * n
    · have d1 : decide ((k : Int) < 2 * n) = true := by simpa using hlt
      go_wp2_with fail
      refine (rEnds_any n k _ (by omega) (by omega) (by omega) (by omega)).mono ?_
      rintro e wn ⟨rfl, hb2⟩
      replace hb := hb.trans (hb2.mono hb.size)
      clear hb2
      have HJ := Lib.hid (show joins n a b k = (endA n k == a && endB n k == b || endA n k == b && endB n k == a) from rfl)
      generalize endA n k = x at *
      generalize endB n k = y at *
      have yes : (x == a && y == b || x == b && y == a) = true → linkI n a b = ((k : Int), true) := fun h => by rw [HE.out]; exact linkR_hit n a b k hlt (by rw [HJ.out]; exact h) HN.out
      have no : (x == a && y == b || x == b && y == a) = false → ∀ j : Nat, j < k + 1 → joins n a b j = false := fun h j hj => by
        by_cases e : j = k
        · rw [e, HJ.out]; exact h
        · exact HN.out j (by omega)
      have Y := Lib.hid yes
      have O := Lib.hid no
      clear yes no
      cases c1 : (x == a) <;> cases c2 : (y == b) <;> cases c3 : (x == b) <;> cases c4 : (y == a)
      all_goals (rw [c1, c2, c3, c4] at Y O)
      all_goals first
        | (have HF := Lib.hid (Y.out rfl)
           clear Y O
           go_wp2
           go_ret2
           exact ⟨ret_found HF.out, hb⟩)
        | (have HF := Lib.hid (O.out rfl)
           clear Y O
           go_wp2
           go_roundw
           case rel => exact ⟨k + 1, by omega, by go_num, hb, HF.out⟩
           case measure => simp [intOf]; omega)
    · have d1 : decide ((k : Int) < 2 * n) = false := by simpa using hlt
      have HF := Lib.hid (show linkI n a b = (0, false) by rw [HE.out]; exact linkR_none n a b fun j hj => HN.out j (by omega))
      go_wp2
      go_ret2
      exact ⟨ret_found HF.out, hb⟩

/-- The loop that gathers a way. -/
def RWayAt (n f d : Int) (m : Nat) (w : World) (v i : Value) (w' : World) : Prop :=
  ∃ k : Nat, k ≤ m ∧ i = .int .i64 ((k : Int) + 1) ∧ Below w.heap.size w w' ∧ OwnI w.heap.size w' v (walkTo n f d k)

end Go.Proofs.Ytbghpkdkfbpmeaa

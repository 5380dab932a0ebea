/-
  Contracts of the reference's Bits and Num.
-/
import Derived.Test.YtbghpkdkfbpmeaaRef2
namespace Go.Proofs.Ytbghpkdkfbpmeaa
open Go.RowKit Plait
set_option maxRecDepth 100000
set_option linter.unusedVariables false

theorem bitsL_take (n : Int) (size k : Nat) (h : k < size) : (bitsL n size).take (k + 1) = (bitsL n size).take k ++ [bitAt n size k] := by
  rw [List.take_succ_eq_append_getElem (by rw [bitsL_length]; exact h), bitsL_get]

/-- The reference's loop of Bits: the first k bits are there. -/
def RBitsAt (n : Int) (size : Nat) (s i : Value) : Prop :=
  ∃ k : Nat, k ≤ size ∧ i = .int .i64 ((size : Int) - 1 - k) ∧ s = .string ⟨((bitsL n size).take k).toArray⟩

set_option maxHeartbeats 400000 in
theorem rbits_in (n : Int) (size : Nat) (w : World) (h1 : 1 ≤ size) (h2 : size ≤ 62) :
    Calls Try.prog 23 #[.int .i64 n, .int .i64 size] w fun e w' => e = .returned (.string ⟨(bitsL n size).toArray⟩) ∧ w = w' := by
  have d1 : decide ((size : Int) < 1) = false := by simp; omega
  have d2 : decide ((62 : Int) < (size : Int)) = false := by simp; omega
  go_enter Try.func23, Try.ntmps23
  go_wp2
  go_loop [5, 6] (fun s i => RBitsAt n size s i) (fun _ i => (intOf i + 1).toNat)
  case atStart => exact ⟨0, Nat.zero_le _, by simp, by simp⟩
  case round =>
    obtain ⟨k, hk, rfl, rfl⟩ := hrel
    have hlen : ((bitsL n size).take k).length ≤ 62 := by rw [List.length_take, bitsL_length]; omega
    by_cases hlt : k < size
    · obtain ⟨j, hj⟩ : ∃ j : Nat, (size : Int) - 1 - k = j := ⟨size - 1 - k, by omega⟩
      have hj2 : size - 1 - k = j := by omega
      have hT := bitsL_take n size k hlt
      rw [bitAt, hj2] at hT
      have HJ := Lib.hid hj
      have hjl : j ≤ 62 := by omega
      have hand := and_one (n / 2 ^ j)
      rw [hj]
      by_cases hb : n / 2 ^ j % 2 = 1
      · rw [if_pos hb] at hT
        have HT := Lib.hid hT
        have d3 : (n / 2 ^ j % 2 == 1) = true := by simpa using hb
        generalize (bitsL n size).take k = L at *
        clear hj hj2 hT hb
        go_wp2
        go_round
        case rel =>
          have e := HJ.out
          exact ⟨k + 1, by omega, congrArg (Value.int .i64) (by omega), by rw [HT.out]⟩
        case measure => simp [intOf]
      · rw [if_neg hb] at hT
        have HT := Lib.hid hT
        have d3 : (n / 2 ^ j % 2 == 1) = false := by simpa using hb
        generalize (bitsL n size).take k = L at *
        clear hj hj2 hT hb
        go_wp2
        go_round
        case rel =>
          have e := HJ.out
          exact ⟨k + 1, by omega, congrArg (Value.int .i64) (by omega), by rw [HT.out]⟩
        case measure => simp [intOf]
    · have hk' : (size : Int) - 1 - k = -1 := by omega
      rw [hk', List.take_of_length_le (by rw [bitsL_length]; omega)]
      clear hk' hlen
      go_wp2
      go_ret
      exact ⟨rfl, rfl⟩

theorem rbits_any (n size : Int) (w : World) :
    Calls Try.prog 23 #[.int .i64 n, .int .i64 size] w fun e w' => e = .returned (.string ⟨(bitsI n size).toArray⟩) ∧ w = w' := by
  by_cases h1 : size < 1
  · have HF := Lib.hid (show bitsI n size = [] by unfold bitsI; rw [if_neg (by omega)])
    go_enter Try.func23, Try.ntmps23
    go_wp2
    go_ret
    exact ⟨ret_str HF.out.symm, rfl⟩
  by_cases h2 : 62 < size
  · have HF := Lib.hid (show bitsI n size = [] by unfold bitsI; rw [if_neg (by omega)])
    go_enter Try.func23, Try.ntmps23
    go_wp2
    go_ret
    exact ⟨ret_str HF.out.symm, rfl⟩
  obtain ⟨k, rfl⟩ := Int.eq_ofNat_of_zero_le (by omega : 0 ≤ size)
  have HF := Lib.hid (show bitsI n k = bitsL n k by unfold bitsI; rw [if_pos (by omega)]; rfl)
  refine (rbits_in n k w (by omega) (by omega)).mono ?_
  rintro e w' ⟨rfl, hb⟩
  exact ⟨ret_str HF.out.symm, hb⟩

/-- The reference's loop of Num. -/
def RNumAt (l : List UInt8) (n i : Value) : Prop :=
  ∃ k : Nat, k ≤ l.length ∧ i = .int .i64 k ∧ (∀ c ∈ l.take k, bitB c = true) ∧ n = .int .i64 (numV (l.take k))

end Go.Proofs.Ytbghpkdkfbpmeaa

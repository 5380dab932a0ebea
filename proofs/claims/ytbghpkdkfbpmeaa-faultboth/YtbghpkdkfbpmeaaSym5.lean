/-
  Contracts of sym.Bits and sym.Num: for every number, size and text; nothing that was in memory is changed.
-/
import Derived.Test.YtbghpkdkfbpmeaaSym4
namespace Go.Proofs.Ytbghpkdkfbpmeaa
open Go.RowKit Plait
set_option maxRecDepth 100000
set_option linter.unusedVariables false

/-- The loop of Bits: the row's first k places hold the first k bits. -/
def BitsAt (n : Int) (size : Nat) (w : World) (i : Value) (w' : World) : Prop :=
  ∃ (k : Nat) (A : Array Value), k ≤ size ∧ i = .int .i64 k ∧ w' = w.alloc (.cells A 5) ∧ A.size = size ∧ ∀ j, j < k → A[j]? = some (.int .u8 ((bitAt n size j).toNat : Int))

set_option maxHeartbeats 800000 in
theorem bits_in (n : Int) (size : Nat) (w : World) (h1 : 1 ≤ size) (h2 : size ≤ 62) :
    Calls Try.prog 57 #[.int .i64 n, .int .i64 size] w fun e w' => e = .returned (.string ⟨(bitsL n size).toArray⟩) ∧ Below w.heap.size w w' := by
  obtain ⟨M, hM, hM0, hmk⟩ := make_bytes size (by omega)
  have HM := Lib.hid hM
  clear hM hM0
  have d1 : decide ((size : Int) < 1) = false := by simp; omega
  have d2 : decide ((62 : Int) < (size : Int)) = false := by simp; omega
  go_enter Try.func57, Try.ntmps57
  go_wp2
  go_loopw [17] (fun i w' => BitsAt n size w i w') (fun i _ => size - (intOf i).toNat)
  case atStart => exact ⟨0, M, Nat.zero_le _, rfl, rfl, HM.out, fun j hj => absurd hj (by omega)⟩
  case round =>
    obtain ⟨k, A, hk, rfl, rfl, hA, hAj⟩ := hrel
    by_cases hlt : k < size
    · obtain ⟨v0, hc⟩ : ∃ v, (w.alloc (.cells A 5)).cell? ⟨w.heap.size, k, none⟩ = some v := ⟨A[k]'(by omega), by rw [World.cell?_alloc_mark]; exact Array.getElem?_eq_getElem (by omega)⟩
      have HA := Lib.hid hA
      have HAj := Lib.hid hAj
      clear hA hAj
      go_wp2
      go_roundw
      case rel =>
        refine ⟨k + 1, _, by omega, by go_num, rfl, by simpa using HA.out, fun j hj => ?_⟩
        rw [Array.getElem?_setIfInBounds]
        by_cases hjk : k = j
        · subst hjk
          have hs := HA.out
          rw [if_pos rfl, if_pos (by omega), and_one, bitAt_toNat]
          congr 2
          omega
        · rw [if_neg hjk]
          exact HAj.out j (by omega)
      case measure => simp [intOf]; omega
    · have hback : (convert 38 9 (.slice (some ⟨w.heap.size, 0, none⟩) size size)).run Try.prog (w.alloc (.cells A 5)) = .ok (.string ⟨(bitsL n size).toArray⟩) (w.alloc (.cells A 5)) := by
        have h := run_convert_bytes_back (P := Try.prog) (w.alloc (.cells A 5)) 38 9 5 ⟨w.heap.size, 0, none⟩ size (bitsL n size) Try.underlying38 Try.underlying5 Try.underlying9 (fun j hj => by
          rw [addr_add, Nat.zero_add, World.cell?_alloc_mark, bitsL_get]
          exact hAj j (by rw [bitsL_length] at hj; omega))
        rw [bitsL_length] at h
        exact h
      clear hA hAj
      go_wp2
      go_ret
      exact ⟨rfl, (Below.refl _ w).alloc (Nat.le_refl _) _⟩

theorem bits_any (n size : Int) (w : World) :
    Calls Try.prog 57 #[.int .i64 n, .int .i64 size] w fun e w' => e = .returned (.string ⟨(bitsI n size).toArray⟩) ∧ Below w.heap.size w w' := by
  by_cases h1 : size < 1
  · have HF := Lib.hid (show bitsI n size = [] by unfold bitsI; rw [if_neg (by omega)])
    go_enter Try.func57, Try.ntmps57
    go_wp2
    go_ret
    exact ⟨ret_str HF.out.symm, Below.refl _ _⟩
  by_cases h2 : 62 < size
  · have HF := Lib.hid (show bitsI n size = [] by unfold bitsI; rw [if_neg (by omega)])
    go_enter Try.func57, Try.ntmps57
    go_wp2
    go_ret
    exact ⟨ret_str HF.out.symm, Below.refl _ _⟩
  obtain ⟨k, rfl⟩ := Int.eq_ofNat_of_zero_le (by omega : 0 ≤ size)
  have HF := Lib.hid (show bitsI n k = bitsL n k by unfold bitsI; rw [if_pos (by omega)]; rfl)
  refine (bits_in n k w (by omega) (by omega)).mono ?_
  rintro e w' ⟨rfl, hb⟩
  exact ⟨ret_str HF.out.symm, hb⟩

end Go.Proofs.Ytbghpkdkfbpmeaa

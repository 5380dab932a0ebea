/-
  Plain mathematics of sums, on: wrapped texts with symbols turned are refused.
-/
import Derived.Test.YtfpbijcgbknklaaCrc2
namespace Plait
set_option linter.unusedVariables false

/-- A wrapped text's bits. -/
def wrapB (b : List UInt8) : List UInt8 := b ++ bitsL (sumI b) 16

theorem wrapL_eq (b : List UInt8) : wrapL b = wrapB b ++ [35] := rfl
theorem wrapB_length (b : List UInt8) : (wrapB b).length = b.length + 16 := by rw [wrapB, List.length_append, bitsL_length]
theorem wrapL_length (b : List UInt8) : (wrapL b).length = b.length + 17 := by rw [wrapL_eq, List.length_append, wrapB_length]; rfl

theorem wrapB_bits (b : List UInt8) (h : allBits b) : allBits (wrapB b) := wrap_bits b h
theorem wrapB_sum (b : List UInt8) : sumB (wrapB b) = 0#16 := wrap_sum b

theorem open_refused (w : List UInt8) (h : allBits w) (h16 : 16 ≤ w.length) (hs : sumB w ≠ 0#16) : openP (w ++ [35]) = ([], 5) := by
  rw [open_bits w h h16, if_neg hs]

theorem one_refused (b : List UInt8) (h : allBits b) (k : Nat) (hk : k < b.length + 16) : openP (turn (wrapL b) (k : Int)) = ([], 5) := by
  have hk' : k < (wrapB b).length := by rw [wrapB_length]; exact hk
  rw [wrapL_eq, turn_tail _ k hk']
  apply open_refused _ (turn_allBits _ (wrapB_bits b h) k hk') (by rw [turn_length, wrapB_length]; omega)
  rw [turn_sum _ (wrapB_bits b h) k hk', wrapB_sum b, BitVec.zero_xor]
  exact one_found _ _

theorem two_refused (b : List UInt8) (h : allBits b) (hb : b.length ≤ 900) (i j : Nat) (hi : i < b.length + 16) (hj : j < b.length + 16) (hij : i ≠ j) : openP (turn (turn (wrapL b) (i : Int)) (j : Int)) = ([], 5) := by
  have hi' : i < (wrapB b).length := by rw [wrapB_length]; exact hi
  have hj' : j < (turn (wrapB b) (i : Int)).length := by rw [turn_length, wrapB_length]; exact hj
  have a1 := turn_allBits _ (wrapB_bits b h) i hi'
  rw [wrapL_eq, turn_tail _ i hi', turn_tail _ j hj']
  apply open_refused _ (turn_allBits _ a1 j hj') (by rw [turn_length, turn_length, wrapB_length]; omega)
  rw [turn_sum _ a1 j hj', turn_sum _ (wrapB_bits b h) i hi', wrapB_sum b, BitVec.zero_xor, turn_length]
  exact two_found _ i j hi' (by rw [wrapB_length]; exact hj) hij (by rw [wrapB_length]; omega)

theorem three_refused (b : List UInt8) (h : allBits b) (i j k : Nat) (hi : i < b.length + 16) (hj : j < b.length + 16) (hk : k < b.length + 16) : openP (turn (turn (turn (wrapL b) (i : Int)) (j : Int)) (k : Int)) = ([], 5) := by
  have hi' : i < (wrapB b).length := by rw [wrapB_length]; exact hi
  have hj' : j < (turn (wrapB b) (i : Int)).length := by rw [turn_length, wrapB_length]; exact hj
  have hk' : k < (turn (turn (wrapB b) (i : Int)) (j : Int)).length := by rw [turn_length, turn_length, wrapB_length]; exact hk
  have a1 := turn_allBits _ (wrapB_bits b h) i hi'
  have a2 := turn_allBits _ a1 j hj'
  rw [wrapL_eq, turn_tail _ i hi', turn_tail _ j hj', turn_tail _ k hk']
  apply open_refused _ (turn_allBits _ a2 k hk') (by rw [turn_length, turn_length, turn_length, wrapB_length]; omega)
  rw [turn_sum _ a2 k hk', turn_sum _ a1 j hj', turn_sum _ (wrapB_bits b h) i hi', wrapB_sum b, BitVec.zero_xor]
  simp only [turn_length]
  exact three_found _ i j k

theorem bits_not_whole (w : List UInt8) (h : allBits w) : wholeB w = false := by
  unfold wholeB
  rw [Bool.and_eq_false_iff]
  left
  rcases List.eq_nil_or_concat w with rfl | ⟨m, c, rfl⟩
  · rfl
  · have hc := h c (by simp)
    simp [bitB] at hc
    simp
    rcases hc with rfl | rfl <;> decide

theorem tail_gone (b : List UInt8) (h : allBits b) : openP (wrapB b) = ([], 4) := by
  unfold openP
  rw [if_pos (bits_not_whole _ (wrapB_bits b h))]

theorem more_behind (b : List UInt8) (h : allBits b) (c : UInt8) : openP (wrapL b ++ [c]) = ([], 4) := by
  have hl := wrapB_length b
  have : wholeB (wrapL b ++ [c]) = false := by
    unfold wholeB
    rw [Bool.and_eq_false_iff]
    right
    rw [wrapL_eq, List.append_assoc, List.singleton_append, slen_bits_tail _ [c] (wrapB_bits b h)]
    simp
  unfold openP
  rw [if_pos this]

end Plait

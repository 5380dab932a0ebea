/-
  Plain mathematics of relays, on: what goes out is a stream, a front of both; compared twice, and of three.
-/
import Derived.Test.YtfpbijcgbknklaaLa1
import Derived.Test.YtfpbijcgbknklaaMath3
import Derived.Test.YtfpbijcgbknklaaMath4
namespace Plait

theorem clean_front : ∀ (a : List UInt8) (k : Nat), clean ((clean a).take k) = (clean a).take k
  | [], k => by simp [clean_nil]
  | c :: l, 0 => by simp [clean_nil]
  | c :: l, k + 1 => by
    rw [clean_cons]
    by_cases h : c = 35
    · rw [if_pos h]; simp [clean_cons]
    · rw [if_neg h]
      by_cases h2 : bitB c = true
      · rw [if_pos h2, List.take_succ_cons, clean_cons, if_neg h, if_pos h2, clean_front l k]
      · rw [if_neg h2]; simp [clean_nil]

theorem outL_true (a b : List UInt8) : outL true a b = common (clean a) (clean b) := rfl
theorem outL_false (a b : List UInt8) : outL false a b = clean a := rfl

theorem clean_out (cmp : Bool) (a b : List UInt8) : clean (outL cmp a b) = outL cmp a b := by
  cases cmp
  · exact clean_idem a
  · exact clean_front a _

theorem front_trans {a b c : List UInt8} (h1 : frontB a b = true) (h2 : frontB b c = true) : frontB a c = true := by
  unfold frontB at *
  rw [List.isPrefixOf_iff_prefix] at *
  exact h1.trans h2

theorem front_clean (a : List UInt8) : frontB (clean a) a = true := by
  unfold frontB clean
  rw [List.isPrefixOf_iff_prefix]
  exact List.take_prefix _ _

theorem out_front (a b : List UInt8) : frontB (outL true a b) a = true := front_trans (common_front _ _) (front_clean a)
theorem out_front2 (a b : List UInt8) : frontB (outL true a b) b = true := front_trans (common_front_right _ _) (front_clean b)
theorem out_symm (a b : List UInt8) : outL true b a = outL true a b := common_symm _ _
theorem out_self (a : List UInt8) : outL true a a = clean a := common_self _
theorem out_again (a b : List UInt8) : outL true (outL true a b) a = outL true a b := by
  rw [outL_true (outL true a b) a, clean_out, outL_true, common_symm, ← common_assoc, common_self]
theorem out_again2 (a b : List UInt8) : outL true (outL true a b) (outL true a b) = outL true a b := by
  rw [out_self, clean_out]
theorem out_direct (a b : List UInt8) : outL false (outL true a b) b = outL true a b := by
  rw [outL_false, clean_out]
theorem out_front3 (a b : List UInt8) : frontB (outL true a b) (outL false a b) = true := common_front _ _

theorem out3 (a b c : List UInt8) : outL true (outL true a b) c = common (clean a) (common (clean b) (clean c)) := by
  rw [outL_true (outL true a b) c, clean_out, outL_true, common_assoc]
theorem out3r (a b c : List UInt8) : outL true a (outL true b c) = common (clean a) (common (clean b) (clean c)) := by
  rw [outL_true a, clean_out, outL_true]
theorem out3t (a b c : List UInt8) : outL true (outL true c a) b = common (clean a) (common (clean b) (clean c)) := by
  rw [out3, common_symm (clean c), common_assoc]

end Plait

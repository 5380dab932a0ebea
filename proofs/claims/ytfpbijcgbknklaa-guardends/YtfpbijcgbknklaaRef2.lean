/-
  Contracts of the reference's symbols, the rest: Front, Whole, Turn, Bits, Num.
-/
import Derived.Test.YtfpbijcgbknklaaRef1
namespace Go.Proofs.Ytfpbijcgbknklaa
open Go.RowKit Plait
set_option maxRecDepth 100000
set_option linter.unusedVariables false

theorem byte_eq (c : UInt8) (n : Nat) (h : n < 256) : ((c.toNat : Int) == (n : Int)) = (c == UInt8.ofNat n) := by
  rw [Bool.eq_iff_iff, beq_iff_eq, beq_iff_eq]
  constructor
  · intro e
    apply UInt8.toNat_inj.1
    simp [UInt8.toNat_ofNat', Nat.mod_eq_of_lt h]
    omega
  · rintro rfl
    simp [UInt8.toNat_ofNat', Nat.mod_eq_of_lt h]

theorem front_take (l m : List UInt8) (h : l.length ≤ m.length) : frontB l m = (m.take l.length == l) := by
  unfold frontB
  rw [Bool.eq_iff_iff, List.isPrefixOf_iff_prefix, beq_iff_eq, List.prefix_iff_eq_take]
  exact eq_comm

theorem front_long (l m : List UInt8) (h : m.length < l.length) : frontB l m = false := by
  unfold frontB
  rw [Bool.eq_false_iff]
  intro e
  have := (List.isPrefixOf_iff_prefix.1 e).length_le
  omega

theorem clean_eq (l : List UInt8) : (clean l == l) = (slen l == l.length) := by
  have h := slen_le l
  rw [Bool.eq_iff_iff, beq_iff_eq, beq_iff_eq, clean]
  constructor
  · intro e
    have := congrArg List.length e
    rw [List.length_take] at this
    omega
  · intro e
    rw [e, List.take_length]

theorem last_get (l : List UInt8) (h : 0 < l.length) : l.getLast? = some (l[l.length - 1]) := by
  rw [List.getLast?_eq_getElem?, List.getElem?_eq_getElem]

theorem whole_last (l : List UInt8) (hpos : 0 < l.length) (h1 : slen l = l.length) : wholeB l = (l[l.length - 1]'(Nat.sub_lt hpos (by decide)) == 35) := by
  rw [wholeB, last_get l hpos, h1]; simp

theorem rturn_in (l : List UInt8) (k : Nat) (h : k < l.length) : l.take k ++ [other l[k]] ++ l.drop (k + 1) = l.set k (other l[k]) := by
  rw [List.set_eq_take_append_cons_drop, if_pos h]
  simp

theorem drop_take_one (l : List UInt8) (k : Nat) (h : k < l.length) : (l.drop k).take 1 = [l[k]] := by
  rw [List.drop_eq_getElem_cons h]; rfl

theorem rturn_fin (l : List UInt8) (k : Nat) (d c : UInt8) (h : other c = d) : l.take k ++ d :: (l.drop (k + 1)).take (l.length - (k + 1)) = l.take k ++ [other c] ++ l.drop (k + 1) := by
  have e : (l.drop (k + 1)).take (l.length - (k + 1)) = l.drop (k + 1) := List.take_of_length_le (by rw [List.length_drop]; exact Nat.le_refl _)
  rw [e, h]; simp

end Go.Proofs.Ytfpbijcgbknklaa

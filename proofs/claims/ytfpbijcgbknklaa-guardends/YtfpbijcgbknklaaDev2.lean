/-
  Contracts of package crc: Sum of texts of bits, Wrap of them, Open of every text; nothing that was in memory is changed.
-/
import Derived.Test.YtfpbijcgbknklaaRef4
namespace Go.Proofs.Ytfpbijcgbknklaa
open Go.RowKit Plait
set_option maxRecDepth 100000
set_option linter.unusedVariables false

theorem reg_top (R : BitVec 16) : (R.toNat : Int) / 32768 = if R.msb then 1 else 0 := by
  have h := reg_out R
  have hl := R.isLt
  simp only [Nat.reducePow] at hl
  cases hm : R.msb
  · rw [hm] at h; simp at h ⊢; omega
  · rw [hm] at h; simp at h ⊢; omega

theorem reg_up16 (R : BitVec 16) : IntKind.u16.wrap ((R.toNat : Int) * 2) = ((R <<< 1).toNat : Int) := by
  have hd : ∀ x : Int, IntKind.u16.wrap x = x % 65536 := fun x => by simp [IntKind.wrap, IntKind.signed, IntKind.bits]
  rw [hd, BitVec.toNat_shiftLeft, Nat.shiftLeft_eq]
  simp only [Nat.reducePow]
  omega

theorem reg_laid16 (X : BitVec 16) : bits .xor .u16 (X.toNat : Int) 4129 = ((X ^^^ 0x1021#16).toNat : Int) := by
  have h := X.isLt
  have hdef : bits .xor .u16 (X.toNat : Int) 4129 = IntKind.u16.wrap ((BitVec.ofInt 16 (X.toNat : Int) ^^^ BitVec.ofInt 16 4129).toNat : Int) := rfl
  have hd : ∀ x : Int, IntKind.u16.wrap x = x % 65536 := fun x => by simp [IntKind.wrap, IntKind.signed, IntKind.bits]
  have e : (BitVec.ofInt 16 (X.toNat : Int)).toNat = X.toNat := by
    rw [BitVec.toNat_ofInt]
    simp only [Nat.reducePow] at *
    omega
  have hx : X.toNat ^^^ 4129 < 2 ^ 16 := Nat.xor_lt_two_pow h (by decide)
  rw [hdef, BitVec.toNat_xor, BitVec.toNat_xor, e, hd, show (BitVec.ofInt 16 4129).toNat = 4129 by decide, show (0x1021#16).toNat = 4129 by decide]
  simp only [Nat.reducePow] at hx
  omega

/-- The loop of Sum. -/
def SumAt (l : List UInt8) (w : World) (r : Value) (w' : World) : Prop :=
  ∃ k : Nat, k ≤ l.length ∧ w' = w.iter ⟨l.toArray⟩ k ∧ r = .int .u16 ((sumB (l.take k)).toNat : Int)

/-- The last 17 bytes of a whole text are the sum and the tail just where the 16 ahead of the tail are the sum. -/
theorem open_cmp (l : List UInt8) (n : Nat) (hw : wholeB l = true) (hn : l.length = n + 17) (B : List UInt8) (hB : B.length = 16) :
    ((l.drop n).take 17 == B ++ [35]) = ((l.drop n).take 16 == B) := by
  have hlast : l[n + 16]'(by omega) = 35 := by
    unfold wholeB at hw
    simp only [Bool.and_eq_true, beq_iff_eq] at hw
    have h := hw.1
    rw [List.getLast?_eq_getElem?, hn, List.getElem?_eq_getElem (by omega)] at h
    simpa using h
  have e : (l.drop n).take 17 = (l.drop n).take 16 ++ [35] := by
    rw [List.take_succ_eq_append_getElem (i := 16) (by simp; omega), List.getElem_drop, hlast]
  rw [e, Bool.eq_iff_iff, beq_iff_eq, beq_iff_eq]
  exact ⟨fun h => List.append_cancel_right h, fun h => by rw [h]⟩

theorem add_run (x y : List UInt8) (hx : x.length ≤ 1000) (hy : y.length ≤ 1000) : ∀ W : World, (Op.stringOp .add ⟨x.toArray⟩ ⟨y.toArray⟩).run Try.prog W = .ok (.string ⟨(x ++ y).toArray⟩) W := fun W => by
  rw [run_string_add_sum W _ _ (by rw [size_mk, size_mk]; omega), app_mk]

end Go.Proofs.Ytfpbijcgbknklaa

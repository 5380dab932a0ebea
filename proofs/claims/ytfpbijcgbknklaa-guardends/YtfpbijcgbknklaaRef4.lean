/-
  Contracts of the reference's sums: Sum, Wrap, Open, for every text; nothing that was in memory is changed.
-/
import Derived.Test.YtfpbijcgbknklaaRef3
import Derived.Test.YtfpbijcgbknklaaCrc2
import Derived.Deep.RegionHeld3
namespace Go.Proofs.Ytfpbijcgbknklaa
open Go.RowKit Plait
set_option maxRecDepth 100000
set_option linter.unusedVariables false

theorem reg_out (R : BitVec 16) : ((R.toNat : Int) / 32768 == 1) = R.msb := by
  have h := R.isLt
  rw [BitVec.msb_eq_decide, Bool.eq_iff_iff, beq_iff_eq, decide_eq_true_iff]
  simp only [Nat.reducePow, Nat.reduceSub] at *
  omega

theorem reg_up (R : BitVec 16) : bits .and .i64 ((R.toNat : Int) * 2) 65535 = ((R <<< 1).toNat : Int) := by
  have h := and_mask ((R.toNat : Int) * 2) 16 (by decide)
  rw [show ((2 : Int) ^ 16 - 1) = 65535 by decide, show ((2 : Int) ^ 16) = 65536 by decide] at h
  rw [h, BitVec.toNat_shiftLeft, Nat.shiftLeft_eq]
  simp only [Nat.reducePow]
  omega

theorem wrap_xor (a b : Nat) (ha : a < 65536) (hb : b < 65536) : bits .xor .i64 (a : Int) (b : Int) = ((a ^^^ b : Nat) : Int) := by
  have hdef : bits .xor .i64 (a : Int) (b : Int) = IntKind.i64.wrap ((BitVec.ofInt 64 (a : Int) ^^^ BitVec.ofInt 64 (b : Int)).toNat : Int) := rfl
  have e : ∀ n : Nat, n < 65536 → (BitVec.ofInt 64 (n : Int)).toNat = n := by
    intro n hn
    rw [BitVec.toNat_ofInt]
    simp only [Nat.reducePow]
    omega
  have hx : a ^^^ b < 2 ^ 16 := Nat.xor_lt_two_pow (by simpa using ha) (by simpa using hb)
  rw [hdef, BitVec.toNat_xor, e a ha, e b hb, wrap_small _ (by omega) (by omega)]

theorem reg_laid (X : BitVec 16) : bits .xor .i64 (X.toNat : Int) 4129 = ((X ^^^ 0x1021#16).toNat : Int) := by
  have h := X.isLt
  have := wrap_xor X.toNat 4129 (by simpa using h) (by decide)
  rw [BitVec.toNat_xor]
  exact this

theorem step_if (R : BitVec 16) (b : Bool) : stepB R b = if R.msb != b then (R <<< 1) ^^^ 0x1021#16 else R <<< 1 := by
  unfold stepB L
  cases R.msb <;> cases b <;> simp [BitVec.xor_assoc]

theorem sum_take (l : List UInt8) (k : Nat) (h : k < l.length) : sumB (l.take (k + 1)) = stepB (sumB (l.take k)) (l[k] == 49) := by
  rw [List.take_succ_eq_append_getElem h, sum_append]
  rfl

theorem byte49 (c : UInt8) : ((c.toNat : Int) == 49) = (c == 49) := byte_eq c 49 (by decide)

/-- The loop of the reference's Sum. -/
def RSumAt (l : List UInt8) (r i : Value) : Prop := ∃ k : Nat, k ≤ l.length ∧ i = .int .i64 k ∧ r = .int .i64 ((sumB (l.take k)).toNat : Int)

/-- What Open answers, as a value. -/
def openR (l : List UInt8) : Value := .tuple #[.string ⟨(openP l).1.toArray⟩, .int .i64 (openP l).2]

theorem openR_tail (l : List UInt8) (h : wholeB l = false) : openR l = .tuple #[.string ⟨#[]⟩, .int .i64 4] := by
  simp [openR, openP, h]
theorem openR_cut (l : List UInt8) (h : wholeB l = true) (h2 : l.length < 17) : openR l = .tuple #[.string ⟨#[]⟩, .int .i64 3] := by
  simp [openR, openP, h, h2]
theorem openR_sum (l : List UInt8) (n : Nat) (h : wholeB l = true) (h2 : l.length = n + 17) (h3 : ((l.drop n).take 16 == bitsL (sumI (l.take n)) 16) = false) : openR l = .tuple #[.string ⟨#[]⟩, .int .i64 5] := by
  have e : l.length - 17 = n := by omega
  have h3' : ¬ (l.drop n).take 16 = bitsL (sumI (l.take n)) 16 := by simpa using h3
  have h17 : ¬ l.length < 17 := by omega
  simp [openR, openP, h, h17, e, h3']
theorem openR_ok (l : List UInt8) (n : Nat) (h : wholeB l = true) (h2 : l.length = n + 17) (h3 : ((l.drop n).take 16 == bitsL (sumI (l.take n)) 16) = true) : openR l = .tuple #[.string ⟨(l.take n).toArray⟩, .int .i64 0] := by
  have e : l.length - 17 = n := by omega
  have h3' : (l.drop n).take 16 = bitsL (sumI (l.take n)) 16 := by simpa using h3
  have h17 : ¬ l.length < 17 := by omega
  simp [openR, openP, h, h17, e, h3']

end Go.Proofs.Ytfpbijcgbknklaa

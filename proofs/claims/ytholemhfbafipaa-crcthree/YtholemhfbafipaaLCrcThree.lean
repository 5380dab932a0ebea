/-
  The walk of CrcThree: it answers true, for all numbers.
-/
import Derived.Test.YtholemhfbafipaaLCrcOne
import Derived.Test.YtholemhfbafipaaCrc4
namespace Go.Proofs.Ytholemhfbafipaa
open Go.RowKit Plait
set_option linter.unusedVariables false

theorem ofInt_wrap (n : Int) : BitVec.ofInt 64 (IntKind.i64.wrap n) = BitVec.ofInt 64 n := by
  rw [IntKind.wrap_i64]
  apply BitVec.eq_of_toNat_eq
  rw [BitVec.toNat_ofInt, BitVec.toNat_ofInt]
  simp only [Nat.reducePow]
  omega

theorem ofInt_xor (a b : Int) : BitVec.ofInt 64 (bits .xor .i64 a b) = BitVec.ofInt 64 a ^^^ BitVec.ofInt 64 b := by
  have hdef : bits .xor .i64 a b = IntKind.i64.wrap ((BitVec.ofInt 64 a ^^^ BitVec.ofInt 64 b).toNat : Int) := rfl
  rw [hdef, ofInt_wrap]
  generalize BitVec.ofInt 64 a ^^^ BitVec.ofInt 64 b = v
  rw [BitVec.ofInt_natCast, BitVec.ofNat_toNat]
  simp

theorem sums_xor (x y z d : List UInt8) (h : sumB d = sumB x ^^^ sumB y ^^^ sumB z) : bits .xor .i64 (bits .xor .i64 (sumI x) (sumI y)) (sumI z) = sumI d := by
  have hx := (sumB x).isLt
  have hy := (sumB y).isLt
  have hz := (sumB z).isLt
  simp only [Nat.reducePow] at hx hy hz
  have hxy : (sumB x).toNat ^^^ (sumB y).toNat < 2 ^ 16 := Nat.xor_lt_two_pow hx hy
  unfold sumI
  rw [wrap_xor _ _ hx hy, wrap_xor _ _ (by simpa using hxy) hz, h, BitVec.toNat_xor, BitVec.toNat_xor]

set_option maxHeartbeats 1600000 in
theorem crcThree_walk (n a b c : Int) (w : World) (hn1 : -9223372036854775808 ≤ n) (hn2 : n ≤ 9223372036854775807) (ha1 : -9223372036854775808 ≤ a) (ha2 : a ≤ 9223372036854775807) (hb1 : -9223372036854775808 ≤ b) (hb2 : b ≤ 9223372036854775807) (hc1 : -9223372036854775808 ≤ c) (hc2 : c ≤ 9223372036854775807) :
    Calls Try.prog 9 #[.int .i64 n, .int .i64 a, .int .i64 b, .int .i64 c] w fun e w' => e = .returned (.bool true) ∧ Below w.heap.size w w' := by
  have hB : Below w.heap.size w w := Below.refl _ _
  obtain ⟨k, hk⟩ : ∃ k : Nat, n % 60 = k := ⟨(n % 60).toNat, by omega⟩
  have hk2 : k < 60 := by omega
  have HK := Lib.hid hk
  have hi : ∀ x : Int, bitsI x (1 + (k : Int)) = bitsL x (1 + k) := fun x => by
    unfold bitsI
    rw [if_pos (by omega)]
    congr 1
  have hda : ∀ x : Int, allBits (bitsI x (1 + (k : Int))) := fun x => by rw [hi]; exact bits_all _ _
  have hll : ∀ x : Int, (bitsI x (1 + (k : Int))).length ≤ 62 := fun x => by rw [hi, bitsL_length]; omega
  have h3 := three_rows a b c (bits .xor .i64 (bits .xor .i64 a b) c) (1 + k) (by omega) (by rw [ofInt_xor, ofInt_xor])
  rw [← hi, ← hi, ← hi, ← hi] at h3
  have hsum := sums_xor _ _ _ _ h3
  have HA := Lib.hid hda
  have HS := Lib.hid hsum
  have L1 := hll a
  have L2 := hll b
  have L3 := hll c
  have L4 := hll (bits .xor .i64 (bits .xor .i64 a b) c)
  clear hk h3 hsum hi hda hll hn1 hn2 ha1 ha2 hb1 hb2 hc1 hc2
  go_enter Try.func9, Try.ntmps9
  go_wp2_with fail
  refine (known2_any _).mono ?_
  rintro e wn ⟨rfl, hb⟩
  replace hB := hB.trans (hb.mono hB.size)
  clear hb
  go_wp2_with fail
  refine (within2_any _ _ _ (by omega) (by omega)).mono ?_
  rintro e wl ⟨rfl, rfl⟩
  rw [HK.out]
  go_wp2_with fail
  refine (rbits_any _ _ _).mono ?_
  rintro e wl ⟨rfl, rfl⟩
  go_wp2_with fail
  refine (rbits_any _ _ _).mono ?_
  rintro e wl ⟨rfl, rfl⟩
  go_wp2_with fail
  refine (rbits_any _ _ _).mono ?_
  rintro e wl ⟨rfl, rfl⟩
  go_wp2_with fail
  refine (rbits_any _ _ _).mono ?_
  rintro e wl ⟨rfl, rfl⟩
  go_wp2_with fail
  refine (csum_any _ _ (by omega) (HA.out _)).mono ?_
  rintro e wn ⟨rfl, hb⟩
  replace hB := hB.trans (hb.mono hB.size)
  clear hb
  go_wp2_with fail
  refine (csum_any _ _ (by omega) (HA.out _)).mono ?_
  rintro e wn ⟨rfl, hb⟩
  replace hB := hB.trans (hb.mono hB.size)
  clear hb
  go_wp2_with fail
  refine (csum_any _ _ (by omega) (HA.out _)).mono ?_
  rintro e wn ⟨rfl, hb⟩
  replace hB := hB.trans (hb.mono hB.size)
  clear hb
  go_wp2_with fail
  refine (csum_any _ _ (by omega) (HA.out _)).mono ?_
  rintro e wn ⟨rfl, hb⟩
  replace hB := hB.trans (hb.mono hB.size)
  clear hb
  have hs := HS.out
  go_wp2
  go_ret
  exact ⟨rfl, hB⟩

end Go.Proofs.Ytholemhfbafipaa

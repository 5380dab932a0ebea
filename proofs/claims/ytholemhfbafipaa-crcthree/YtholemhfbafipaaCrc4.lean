/-
  Plain mathematics of sums, on: bits turned within sixteen places; rows laid over one another.
-/
import Derived.Test.YtholemhfbafipaaCrc3
namespace Plait
set_option linter.unusedVariables false

/-- What the first i of some bits, from place k on, leave. -/
def burst (n k : Nat) (c : List Bool) (i : Nat) : BitVec 16 := Lk (n - k - i) (feed 0#16 (c.take i))

theorem burst_zero (n k : Nat) (c : List Bool) : burst n k c 0 = 0#16 := by
  simp [burst, feed, Lk_zero]

theorem burst_step (n k : Nat) (c : List Bool) (i : Nat) (hi : i < c.length) (hk : k + i < n) : burst n k c (i + 1) = burst n k c i ^^^ (if c[i] then feed 0#16 (oneBit n (k + i)) else 0#16) := by
  unfold burst
  rw [List.take_succ_eq_append_getElem hi, feed_append]
  have e : n - k - i = 1 + (n - k - (i + 1)) := by omega
  have e2 : feed (feed 0#16 (c.take i)) [c[i]] = L (feed 0#16 (c.take i)) ^^^ (if c[i] then 0x1021#16 else 0#16) := rfl
  rw [e2, Lk_xor, e, Lk_add, feed_oneBit, show n - 1 - (k + i) = n - k - (i + 1) by omega]
  congr 1
  by_cases hc : c[i] = true
  · rw [hc]; simp
  · simp [hc, Lk_zero]

theorem burst_found (n k : Nat) (c : List Bool) (hc : c.length = 16) (h1 : ∃ i, ∃ h : i < 16, c[i]'(by omega) = true) : burst n k c 16 ≠ 0#16 := by
  intro h
  have h2 := Lk_eq_zero _ _ h
  rw [List.take_of_length_le (by omega)] at h2
  have h3 := feed_sixteen c hc h2
  obtain ⟨i, hi, hci⟩ := h1
  subst h3
  rw [List.getElem_replicate] at hci
  exact absurd hci (by decide)

/-- Bits of a number, the lowest first. -/
def lowBits (w : Int) : List Bool := (List.range 16).map fun i => decide (w / 2 ^ i % 2 = 1)

theorem lowBits_length (w : Int) : (lowBits w).length = 16 := by simp [lowBits]
theorem lowBits_get (w : Int) (i : Nat) (h : i < (lowBits w).length) : (lowBits w)[i] = decide (w / 2 ^ i % 2 = 1) := by simp [lowBits]

theorem some_bit : ∀ (k : Nat) (w : Int), 0 < w → w < 2 ^ k → ∃ i, i < k ∧ w / 2 ^ i % 2 = 1
  | 0, w, h0, h1 => by simp at h1; omega
  | k + 1, w, h0, h1 => by
    by_cases h : w % 2 = 1
    · exact ⟨0, by omega, by simpa using h⟩
    · obtain ⟨i, hi, hb⟩ := some_bit k (w / 2) (by omega) (by rw [pow_two_succ] at h1; omega)
      refine ⟨i + 1, by omega, ?_⟩
      rw [pow_two_succ, ← Int.ediv_ediv_of_nonneg (by decide)]
      exact hb

theorem lowBits_some (w : Int) (h0 : 0 < w) (h1 : w < 65536) : ∃ i, ∃ h : i < 16, (lowBits w)[i]'(by rw [lowBits_length]; exact h) = true := by
  obtain ⟨i, hi, hb⟩ := some_bit 16 w h0 (by simpa using h1)
  exact ⟨i, hi, by rw [lowBits_get]; simpa using hb⟩

/-- One more of them turned, or not. -/
theorem burst_turn (W : List UInt8) (h : allBits W) (k i : Nat) (hk : k + i < W.length) (c : List Bool) (hi : i < c.length) (hs : sumB W = burst W.length k c i) (hc : c[i] = true) : sumB (turn W ((k + i : Nat) : Int)) = burst W.length k c (i + 1) := by
  rw [turn_sum W h (k + i) hk, hs, burst_step W.length k c i hi hk, hc]; rfl

theorem burst_stay (W : List UInt8) (k i : Nat) (hk : k + i < W.length) (c : List Bool) (hi : i < c.length) (hs : sumB W = burst W.length k c i) (hc : c[i] = false) : sumB W = burst W.length k c (i + 1) := by
  rw [burst_step W.length k c i hi hk, hc, hs]; simp

/-- A number's bit, as a machine has it. -/
theorem bit_ofInt (x : Int) (j : Nat) (hj : j < 64) : (BitVec.ofInt 64 x).getLsbD j = decide (x / 2 ^ j % 2 = 1) := by
  rw [BitVec.getLsbD, Nat.testBit_eq_decide_div_mod_eq]
  have h64 : (2 : Int) ^ 64 = 2 ^ (64 - j) * 2 ^ j := by rw [← Int.pow_add]; congr 1; omega
  have ht : (((BitVec.ofInt 64 x).toNat : Nat) : Int) = x % 2 ^ 64 := by
    rw [BitVec.toNat_ofInt]
    have : 0 ≤ x % ((2 ^ 64 : Nat) : Int) := Int.emod_nonneg _ (by decide)
    rw [Int.toNat_of_nonneg this]
    norm_cast
  have key : x % 2 ^ 64 / 2 ^ j % 2 = x / 2 ^ j % 2 := by
    have hx := Int.emod_add_mul_ediv x (2 ^ 64)
    have hp : (2 : Int) ^ j ≠ 0 := Int.pow_ne_zero (by decide)
    have e : x / 2 ^ j = x % 2 ^ 64 / 2 ^ j + 2 ^ (64 - j) * (x / 2 ^ 64) := by
      conv => lhs; rw [← hx]
      rw [h64, Int.mul_right_comm, Int.add_mul_ediv_right _ _ hp]
    have e2 : (2 : Int) ^ (64 - j) = 2 * 2 ^ (63 - j) := by rw [show (64 - j) = (63 - j) + 1 by omega, pow_two_succ]
    rw [e, e2, Int.mul_assoc, Int.add_mul_emod_self_left]
  have hc : (((BitVec.ofInt 64 x).toNat / 2 ^ j % 2 : Nat) : Int) = x / 2 ^ j % 2 := by
    rw [← key, ← ht]; norm_cast
  rw [decide_eq_decide]
  omega

theorem vals_bitsL (x : Int) (k : Nat) (hk : k ≤ 62) : vals (bitsL x k) = (List.range k).map fun i => (BitVec.ofInt 64 x).getLsbD (k - 1 - i) := by
  unfold vals bitsL
  rw [List.map_map]
  apply List.map_congr_left
  intro i hi
  have hi' : i < k := by simpa using hi
  rw [bit_ofInt x (k - 1 - i) (by omega)]
  simp only [Function.comp_apply, bitAt]
  split <;> simp_all

theorem three_rows (a b c d : Int) (k : Nat) (hk : k ≤ 62) (h : BitVec.ofInt 64 d = BitVec.ofInt 64 a ^^^ BitVec.ofInt 64 b ^^^ BitVec.ofInt 64 c) : sumB (bitsL d k) = sumB (bitsL a k) ^^^ sumB (bitsL b k) ^^^ sumB (bitsL c k) := by
  unfold sumB
  have e : vals (bitsL d k) = xorL (xorL (vals (bitsL a k)) (vals (bitsL b k))) (vals (bitsL c k)) := by
    rw [vals_bitsL a k hk, vals_bitsL b k hk, vals_bitsL c k hk, vals_bitsL d k hk, h]
    unfold xorL
    apply List.ext_getElem
    · simp
    · intro i h1 h2
      simp
  have l : ∀ x : Int, (vals (bitsL x k)).length = k := fun x => by rw [vals_length, bitsL_length]
  have e1 := feed_xor (vals (bitsL a k)) (vals (bitsL b k)) 0xffff#16 0xffff#16 (by rw [l, l])
  have e2 := feed_xor (xorL (vals (bitsL a k)) (vals (bitsL b k))) (vals (bitsL c k)) (0xffff#16 ^^^ 0xffff#16) 0xffff#16 (by simp [xorL, l])
  rw [e1] at e2
  rw [e, ← e2]
  congr 1

end Plait

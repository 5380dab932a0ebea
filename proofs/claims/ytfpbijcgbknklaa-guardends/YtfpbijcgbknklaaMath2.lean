/-
  Plain mathematics of symbols, on: bits mean what they were made of; they are ordered as the numbers are; fronts of fronts.
-/
import Derived.Test.YtfpbijcgbknklaaMath
import GoSem.Claim
namespace Plait

theorem pow_two_succ (k : Nat) : (2 : Int) ^ (k + 1) = 2 * 2 ^ k := by rw [Int.pow_succ]; omega

/-- The first bits mean the number without its lowest ones. -/
theorem numV_bits_take (n : Int) (size : Nat) : ∀ k, k ≤ size → (numV ((bitsL n size).take k) : Int) = n / 2 ^ (size - k) % 2 ^ k
  | 0, _ => by simp [numV, Int.emod_one]
  | k + 1, h => by
    have ih := numV_bits_take n size k (by omega)
    rw [List.take_succ_eq_append_getElem (by rw [bitsL_length]; omega), bitsL_get, numV_snoc]
    have e : size - 1 - k = size - (k + 1) := by omega
    have e2 : size - k = (size - (k + 1)) + 1 := by omega
    have hd : n / 2 ^ (size - k) = n / 2 ^ (size - (k + 1)) / 2 := by
      rw [e2, pow_two_succ, Int.mul_comm, Int.ediv_ediv_of_nonneg (by exact Int.pow_nonneg (by decide))]
    rw [hd] at ih
    unfold bitAt
    rw [e]
    generalize n / 2 ^ (size - (k + 1)) = m at *
    have hmod : m % 2 ^ (k + 1) = 2 * (m / 2 % 2 ^ k) + m % 2 := by
      have h1 := Int.emod_add_mul_ediv m 2
      have h2 := Int.emod_add_mul_ediv (m / 2) (2 ^ k)
      have hp : (0 : Int) < 2 ^ k := Int.pow_pos (by decide)
      have b1 := Int.emod_nonneg (m / 2) (show (2 : Int) ^ k ≠ 0 by omega)
      have b2 := Int.emod_lt_of_pos (m / 2) hp
      have e3 : m = (2 * (m / 2 % 2 ^ k) + m % 2) + 2 ^ (k + 1) * (m / 2 / 2 ^ k) := by
        rw [pow_two_succ, Int.mul_assoc]; omega
      have b3 : m % 2 = 0 ∨ m % 2 = 1 := by omega
      conv => lhs; rw [e3]
      rw [Int.add_mul_emod_self_left]
      apply Int.emod_eq_of_lt
      · omega
      · rw [pow_two_succ]; omega
    rw [hmod]
    have b : m % 2 = 0 ∨ m % 2 = 1 := by omega
    rcases b with b | b
    · simp [b, ih]
    · simp [b, ih]

theorem numV_bits (n : Int) (size : Nat) : (numV (bitsL n size) : Int) = n % 2 ^ size := by
  have := numV_bits_take n size size (Nat.le_refl _)
  rw [List.take_of_length_le (by rw [bitsL_length]; exact Nat.le_refl _)] at this
  simpa using this

theorem bits_all (n : Int) (size : Nat) : ∀ c ∈ bitsL n size, bitB c = true := by
  intro c hc
  simp only [bitsL, List.mem_map] at hc
  obtain ⟨i, _, rfl⟩ := hc
  unfold bitAt
  split <;> decide

theorem foldl_zero (l : List UInt8) : numV (48 :: l) = numV l := by simp [numV]

/-- Of texts of bits that are as long the meaning is the order. -/
theorem foldl_lt_iff : ∀ (l m : List UInt8) (a b : Nat), l.length = m.length → (∀ c ∈ l, bitB c = true) → (∀ c ∈ m, bitB c = true) →
    (l.foldl (fun a c => 2 * a + if c = 49 then 1 else 0) a < m.foldl (fun a c => 2 * a + if c = 49 then 1 else 0) b ↔ a < b ∨ (a = b ∧ Go.Op.bytesLess l m = true)) ∧
    (l.foldl (fun a c => 2 * a + if c = 49 then 1 else 0) a = m.foldl (fun a c => 2 * a + if c = 49 then 1 else 0) b ↔ a = b ∧ l = m)
  | [], [], a, b, _, _, _ => by simp [Go.Op.bytesLess]
  | [], _ :: _, _, _, h, _, _ => by simp at h
  | _ :: _, [], _, _, h, _, _ => by simp at h
  | c :: l, d :: m, a, b, h, hl, hm => by
    have ih := foldl_lt_iff l m (2 * a + if c = 49 then 1 else 0) (2 * b + if d = 49 then 1 else 0) (by simpa using h) (fun x hx => hl x (by simp [hx])) (fun x hx => hm x (by simp [hx]))
    have hc := hl c (by simp)
    have hd := hm d (by simp)
    simp [bitB] at hc hd
    simp only [List.foldl_cons]
    rw [ih.1, ih.2]
    have e : 2 * a = 2 * b ↔ a = b := by omega
    rcases hc with rfl | rfl <;> rcases hd with rfl | rfl <;> simp [Go.Op.bytesLess]
    · simp [e]
    · omega
    · omega
    · simp [e]

theorem bits_less (x y : Int) (size : Nat) (hx0 : 0 ≤ x) (hx : x < 2 ^ size) (hy0 : 0 ≤ y) (hy : y < 2 ^ size) : Go.Op.bytesLess (bitsL x size) (bitsL y size) = decide (x < y) ∧ (bitsL x size == bitsL y size) = (x == y) := by
  have h := foldl_lt_iff (bitsL x size) (bitsL y size) 0 0 (by rw [bitsL_length, bitsL_length]) (bits_all x size) (bits_all y size)
  have ex : (numV (bitsL x size) : Int) = x := by rw [numV_bits, Int.emod_eq_of_lt hx0 hx]
  have ey : (numV (bitsL y size) : Int) = y := by rw [numV_bits, Int.emod_eq_of_lt hy0 hy]
  have h1 : numV (bitsL x size) < numV (bitsL y size) ↔ Go.Op.bytesLess (bitsL x size) (bitsL y size) = true := by simpa [numV] using h.1
  have h2 : numV (bitsL x size) = numV (bitsL y size) ↔ bitsL x size = bitsL y size := by simpa [numV] using h.2
  constructor
  · rw [Bool.eq_iff_iff, ← h1, decide_eq_true_iff]; omega
  · rw [Bool.eq_iff_iff, beq_iff_eq, beq_iff_eq, ← h2]; omega

end Plait

/-
  Plain mathematics of rings: a link is between its ends.
-/
import Derived.Test.YtbghpkdkfbpmeaaRing1
namespace Plait

theorem ends_fin : ∀ n : Fin 7, ∀ k : Fin 24, k.val < 2 * (6 + n.val) → linkI (6 + (n.val : Int)) (endA (6 + (n.val : Int)) k.val) (endB (6 + (n.val : Int)) k.val) = ((k.val : Int), true) ∧ linkI (6 + (n.val : Int)) (endB (6 + (n.val : Int)) k.val) (endA (6 + (n.val : Int)) k.val) = ((k.val : Int), true) := by decide +kernel

theorem ends_any (n k : Int) (h1 : 6 ≤ n) (h2 : n ≤ 12) (k1 : 0 ≤ k) (k2 : k < 2 * n) : linkI n (endA n k) (endB n k) = (k, true) ∧ linkI n (endB n k) (endA n k) = (k, true) := by
  have hf := ends_fin ⟨(n - 6).toNat, by omega⟩ ⟨k.toNat, by omega⟩ (by show k.toNat < 2 * (6 + (n - 6).toNat); omega)
  have e1 : 6 + (((n - 6).toNat : Nat) : Int) = n := by omega
  have e2 : ((k.toNat : Nat) : Int) = k := by omega
  simp only [e1, e2] at hf
  exact hf

end Plait

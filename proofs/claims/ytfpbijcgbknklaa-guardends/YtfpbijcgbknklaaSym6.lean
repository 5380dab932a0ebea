/-
  Contract of sym.Num: for every text; nothing that was in memory is changed.
-/
import Derived.Test.YtfpbijcgbknklaaSym5
namespace Go.Proofs.Ytfpbijcgbknklaa
open Go.RowKit Plait
set_option maxRecDepth 100000
set_option linter.unusedVariables false

/-- The loop of Num: where it stands, that all bytes ahead of it are bits, and what they mean. -/
def NumAt (l : List UInt8) (w : World) (n : Value) (w' : World) : Prop :=
  ∃ pos : Nat, pos ≤ l.length ∧ w' = w.iter ⟨l.toArray⟩ pos ∧ (∀ c ∈ l.take pos, bitB c = true) ∧ n = .int .i64 (numV (l.take pos))

/-- What Num answers. -/
def numR (l : List UInt8) : Value := if numOk l then .tuple #[.int .i64 (numV l), .bool true] else .tuple #[.int .i64 0, .bool false]

theorem numR_yes (l : List UInt8) (h1 : 1 ≤ l.length) (h2 : l.length ≤ 62) (hb : ∀ c ∈ l, bitB c = true) : numR l = .tuple #[.int .i64 (numV l), .bool true] := by
  have : numOk l = true := by simp [numOk, h1, h2]; exact hb
  rw [numR, if_pos this]

theorem numR_no (l : List UInt8) (h : numOk l = false) : numR l = .tuple #[.int .i64 0, .bool false] := by
  rw [numR, h]; rfl

theorem numOk_no (l : List UInt8) (k : Nat) (hk : k < l.length) (h : bitB l[k] = false) : numOk l = false := by
  rw [numOk, Bool.and_eq_false_iff]
  right
  rw [List.all_eq_false]
  exact ⟨l[k], List.getElem_mem hk, by rw [h]; decide⟩

theorem or_bit (N : Nat) (c : UInt8) (hN : N < 2305843009213693952) (hc : c.toNat = 48 ∨ c.toNat = 49) :
    bits .or .i64 ((N : Int) * 2) (wrap64 (wrap32 ((c.toNat : Int) - 48))) = ((2 * N + if c = 49 then 1 else 0 : Nat) : Int) := by
  have h2 : (2 : Int) ^ 63 = 9223372036854775808 := by decide
  have hb : ∀ y : Int, 0 ≤ y → y < 2 → bits .or .i64 ((N : Int) * 2) y = (N : Int) * 2 + y := fun y h0 h1 =>
    bits_join .i64 63 (by decide) (fun n h0 h1 => wrap_small n h0 (by rw [h2] at h1; exact h1)) 1 ((N : Int) * 2) y (by omega) (by omega) (by rw [h2]; omega) h0 (by omega) (by rw [h2]; omega)
  rcases hc with hc | hc
  · have : ¬ c = 49 := fun e => by rw [e] at hc; exact absurd hc (by decide)
    rw [hc, if_neg this, show wrap64 (wrap32 (((48 : Nat) : Int) - 48)) = 0 by simp [wrap64, wrap32], hb 0 (by decide) (by decide)]
    omega
  · have : c = 49 := UInt8.toNat_inj.1 hc
    rw [hc, if_pos this, show wrap64 (wrap32 (((49 : Nat) : Int) - 48)) = 1 by simp [wrap64, wrap32], hb 1 (by decide) (by decide)]
    omega

theorem numV_take (l : List UInt8) (k : Nat) (hk : k < l.length) : numV (l.take (k + 1)) = 2 * numV (l.take k) + if l[k] = 49 then 1 else 0 := by
  rw [List.take_succ_eq_append_getElem hk, numV_snoc]

end Go.Proofs.Ytfpbijcgbknklaa

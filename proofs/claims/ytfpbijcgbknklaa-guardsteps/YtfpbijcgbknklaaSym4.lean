/-
  Contracts of sym.Bits and sym.Num: for every number, size and text; nothing that was in memory is changed.
-/
import Derived.Test.YtfpbijcgbknklaaSym3
import Derived.Laws.MakeOwn
namespace Go.Proofs.Ytfpbijcgbknklaa
open Go.RowKit Plait
set_option maxRecDepth 100000
set_option linter.unusedVariables false

theorem wrap_small (n : Int) (h0 : 0 ≤ n) (h1 : n < 9223372036854775808) : IntKind.i64.wrap n = n := by
  rw [IntKind.wrap_i64]; omega

/-- The lowest bits of any number. -/
theorem and_mask (x : Int) (k : Nat) (hk : k ≤ 62) : bits .and .i64 x ((2 : Int) ^ k - 1) = x % 2 ^ k := by
  have hp : (2 : Nat) ^ k ≤ 2 ^ 62 := Nat.pow_le_pow_right (by decide) hk
  have hp0 : 0 < (2 : Nat) ^ k := Nat.pow_pos (by decide)
  have e1 : ((2 : Int) ^ k - 1) = ((2 ^ k - 1 : Nat) : Int) := by
    rw [Int.natCast_sub hp0]; simp
  have e2 : ((2 : Int) ^ k) = ((2 ^ k : Nat) : Int) := by simp
  have hb : (BitVec.ofInt 64 ((2 ^ k - 1 : Nat) : Int)).toNat = 2 ^ k - 1 := by
    rw [BitVec.toNat_ofInt]
    have : (2 : Nat) ^ 62 = 4611686018427387904 := by decide
    simp only [Nat.reducePow]
    omega
  have ha : ((BitVec.ofInt 64 x).toNat : Int) = x % 18446744073709551616 := by
    rw [BitVec.toNat_ofInt]
    simp only [Nat.reducePow]
    omega
  have hdef : bits .and .i64 x ((2 : Int) ^ k - 1) = IntKind.i64.wrap ((BitVec.ofInt 64 x &&& BitVec.ofInt 64 ((2 : Int) ^ k - 1)).toNat : Int) := rfl
  rw [hdef, e1, BitVec.toNat_and, hb, Nat.and_two_pow_sub_one_eq_mod]
  have hlt : (BitVec.ofInt 64 x).toNat % 2 ^ k < 2 ^ k := Nat.mod_lt _ hp0
  have h62 : (2 : Nat) ^ 62 = 4611686018427387904 := by decide
  rw [wrap_small _ (by omega) (by omega), Int.natCast_emod, ha, e2]
  have hd : ((2 ^ k : Nat) : Int) ∣ 18446744073709551616 := by
    have : (2 : Nat) ^ k ∣ 2 ^ 64 := Nat.pow_dvd_pow 2 (by omega)
    exact Int.natCast_dvd_natCast.2 this
  exact Int.emod_emod_of_dvd x hd

theorem and_one (x : Int) : bits .and .i64 x 1 = x % 2 := by
  have := and_mask x 1 (by decide)
  simpa using this

/-- A made row of bytes. -/
theorem make_bytes (n : Nat) (hn : n ≤ 1048576) : ∃ M : Array Value, M.size = n ∧ (∀ k, k < n → ∃ v, M[k]? = some v) ∧ ∀ W : World, (Instr.makeSlice 41 (.int .i64 (n : Int)) (.int .i64 (n : Int))).run Try.prog W = .ok (.slice (some ⟨W.heap.size, 0, none⟩) n n) (W.alloc (.cells M 5)) := by
  obtain ⟨i0, hi, hz0, hz1, hz2⟩ := info_parts (show (Try.prog.info? 5).map (fun i => (i.zero, i.size, i.bytes)) = some (some (.int .u8 0), 1, 1) by kernel_rfl)
  refine ⟨madeCells (Value.int .u8 0).cells (((n : Nat) : Int).toNat * i0.size), by rw [size_madeCells, hz1]; simp, fun k hk => ?_, fun W => ?_⟩
  · have hs : (madeCells (Value.int .u8 0).cells (((n : Nat) : Int).toNat * i0.size)).size = n := by rw [size_madeCells, hz1]; simp
    exact ⟨_, Array.getElem?_eq_getElem (by rw [hs]; exact hk)⟩
  · have h := run_make (P := Try.prog) W 41 5 i0 (.int .u8 0) Try.underlying41 hi hz0 .i64 .i64 (n : Int) (n : Int) (by omega) (by omega) (by rw [hz2]; omega) (by omega)
    simpa using h

end Go.Proofs.Ytfpbijcgbknklaa

/-
  The walk of SymBits: it answers true, for all numbers, rows of numbers and texts.
-/
import Derived.Test.YtopjhhpbjpfbfaaLaw3
namespace Go.Proofs.Ytopjhhpbjpfbfaa
open Go.RowKit Plait
set_option linter.unusedVariables false

/-- The loop: the row of three texts stays. -/
def ThreeAt (w1 : World) (i : Value) (w' : World) : Prop := ∃ k : Nat, k ≤ 3 ∧ i = .int .i64 k ∧ Below w1.heap.size w1 w'

theorem three_cells (w : World) (x y z : Value) (k : Nat) (h : k < 3) : (w.alloc (.cells #[x, y, z] 9)).cell? ⟨w.heap.size, k, none⟩ = some (if k = 0 then x else if k = 1 then y else z) := by
  rw [World.cell?_alloc_mark]
  have h' : k = 0 ∨ k = 1 ∨ k = 2 := by omega
  rcases h' with rfl | rfl | rfl <;> rfl

set_option maxHeartbeats 4000000 in
theorem symBits_walk (n size : Int) (a0 : Option Addr) (z0 : List Int) (cap0 : Nat) (R : List UInt8) (w : World) (hn1 : -9223372036854775808 ≤ n) (hn2 : n ≤ 9223372036854775807) (hs1 : -9223372036854775808 ≤ size) (hs2 : size ≤ 9223372036854775807) (r0 : Row w a0 z0) (hR : R.length ≤ 9223372036854775807) :
    Calls Try.prog 4 #[.int .i64 n, .int .i64 size, .slice a0 z0.length cap0, .string ⟨R.toArray⟩] w fun e w' => e = .returned (.bool true) ∧ Below w.heap.size w w' := by
  have hB : Below w.heap.size w w := Below.refl _ _
  have l0 := textL_length z0
  by_cases h100 : 100 < R.length
  · have d : decide ((100 : Int) < (R.length : Int)) = true := by simp; omega
    go_enter Try.func4, Try.ntmps4
    go_wp2_with fail
    refine (known_any _).mono ?_
    rintro e wn ⟨rfl, hb⟩
    go_wp2
    go_ret
    exact ⟨rfl, hb⟩
  have d : decide ((100 : Int) < (R.length : Int)) = false := by simp; omega
  go_enter Try.func4, Try.ntmps4
  go_wp2_with fail
  refine (known_any _).mono ?_
  rintro e wn ⟨rfl, hb⟩
  replace hB := hB.trans (hb.mono hB.size)
  clear hb
  go_wp2_with fail
  refine (text_any a0 z0 cap0 _ (r0.later hB)).mono ?_
  rintro e wn ⟨rfl, hb⟩
  replace hB := hB.trans (hb.mono hB.size)
  clear hb r0
  generalize textL z0 = S at *
  go_wp2
  have hB1 : Below w.heap.size w (wn.alloc (.cells #[Value.string ⟨S.toArray⟩, Value.string ⟨R.toArray⟩, Value.string ⟨#[]⟩] 9)) := hB.alloc hB.size _
  have hc : ∀ k, k < 3 → ∃ L : List UInt8, L.length ≤ 100 ∧ (wn.alloc (.cells #[Value.string ⟨S.toArray⟩, Value.string ⟨R.toArray⟩, Value.string ⟨#[]⟩] 9)).cell? ⟨wn.heap.size, k, none⟩ = some (.string ⟨L.toArray⟩) := by
    intro k hk
    rw [three_cells wn _ _ _ k hk]
    have h' : k = 0 ∨ k = 1 ∨ k = 2 := by omega
    rcases h' with rfl | rfl | rfl
    · exact ⟨S, by omega, rfl⟩
    · exact ⟨R, by omega, rfl⟩
    · exact ⟨[], by simp, rfl⟩
  have hlt : wn.heap.size < (wn.alloc (.cells #[Value.string ⟨S.toArray⟩, Value.string ⟨R.toArray⟩, Value.string ⟨#[]⟩] 9)).heap.size := by simp
  generalize wn.alloc (.cells #[Value.string ⟨S.toArray⟩, Value.string ⟨R.toArray⟩, Value.string ⟨#[]⟩] 9) = w1 at *
  generalize wn.heap.size = B at *
  clear hB
  have HC := Lib.hid hc
  clear hc
  go_loopw [10] (fun i w' => ThreeAt w1 i w') (fun i _ => 3 - (intOf i).toNat)
  case atStart => exact ⟨0, by omega, rfl, Below.refl _ _⟩
  case round =>
    obtain ⟨k, hk, rfl, hb⟩ := hrel
    by_cases h3 : k < 3
    · obtain ⟨L, hL, hcell⟩ := HC.out k h3
      have d3 : decide ((k : Int) < 3) = true := by simp; omega
      have hck : wr.cell? ⟨B, k, none⟩ = some (.string ⟨L.toArray⟩) := by rw [hb.cell (p := ⟨B, k, none⟩) hlt]; exact hcell
      clear hcell
      have hnum : numR L = .tuple #[.int .i64 (if numOk L then (numV L : Int) else 0), .bool (numOk L)] := by
        unfold numR
        by_cases h : numOk L = true
        · simp [h]
        · simp [h]
      generalize (if numOk L then (numV L : Int) else 0) = v at *
      generalize numOk L = q at *
      have HNum := Lib.hid hnum
      clear hnum
      go_wp2_with fail
      refine (num_any L _ (by omega)).mono ?_
      rintro e wm ⟨rfl, hbm⟩
      rw [HNum.out]
      have hb2 := hb.trans (hbm.mono hb.size)
      have hcm : wm.cell? ⟨B, k, none⟩ = some (.string ⟨L.toArray⟩) := by
        rw [hbm.cell (p := ⟨B, k, none⟩) (Nat.lt_of_lt_of_le hlt hb.size)]; exact hck
      clear hck hbm hb
      go_wp2_with fail
      refine (rnum_any L _ (by omega)).mono ?_
      rintro e wx ⟨rfl, rfl⟩
      rw [HNum.out]
      go_wp2
      go_roundw
      case rel => exact ⟨k + 1, by omega, by go_num, hb2⟩
      case measure => simp [intOf]; omega
    · have d3 : decide ((k : Int) < 3) = false := by simp; omega
      have hB := hB1.trans (hb.mono hB1.size)
      clear HC hlt hb hB1
      go_wp2_with fail
      refine (within_any _ _ _ (by omega) (by omega)).mono ?_
      rintro e wl ⟨rfl, rfl⟩
      obtain ⟨j, hj⟩ : ∃ j : Nat, size % 62 = j := ⟨(size % 62).toNat, by omega⟩
      have hj2 : j < 62 := by omega
      rw [hj]
      clear hj
      have HM := Lib.hid (mask_eq n j hj2)
      have HR := Lib.hid (numR_bits_mod n j hj2)
      have hlj : (bitsI n (1 + (j : Int))).length = 1 + j := by rw [bitsI_eq n j hj2, bitsL_length]
      have HL := Lib.hid hlj
      have hlj2 : (bitsI n (1 + (j : Int))).length ≤ 62 := by omega
      clear hlj
      go_wp2_with fail
      refine (bits_any _ _ _).mono ?_
      rintro e wn ⟨rfl, hb⟩
      replace hB := hB.trans (hb.mono hB.size)
      clear hb
      go_wp2_with fail
      refine (num_any _ _ (by omega)).mono ?_
      rintro e wn ⟨rfl, hb⟩
      replace hB := hB.trans (hb.mono hB.size)
      clear hb
      rw [HR.out]
      go_wp2_with fail
      refine (bits_any _ _ _).mono ?_
      rintro e wn ⟨rfl, hb⟩
      replace hB := hB.trans (hb.mono hB.size)
      clear hb
      go_wp2_with fail
      refine (rbits_any _ _ _).mono ?_
      rintro e wl ⟨rfl, rfl⟩
      go_wp2_with fail
      refine (rbits_any _ _ _).mono ?_
      rintro e wl ⟨rfl, rfl⟩
      have hm := HM.out
      have hl := HL.out
      have hl' : ((1 + j : Nat) : Int) = 1 + (j : Int) := by omega
      go_wp2
      go_ret
      exact ⟨rfl, hB⟩

end Go.Proofs.Ytopjhhpbjpfbfaa

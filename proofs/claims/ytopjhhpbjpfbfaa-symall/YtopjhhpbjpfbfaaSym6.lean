/-
  Contract of sym.Num: for every text; nothing that was in memory is changed.
-/
import Derived.Test.YtopjhhpbjpfbfaaSym5
namespace Go.Proofs.Ytopjhhpbjpfbfaa
open Go.RowKit Plait
set_option linter.unusedVariables false

/-- The loop of Num: where it stands, that all bytes ahead of it are bits, and what they mean. -/
def NumAt (l : List UInt8) (w : World) (n : Value) (w' : World) : Prop :=
  ∃ pos : Nat, pos ≤ l.length ∧ w' = w.iter ⟨l.toArray⟩ pos ∧ (∀ c ∈ l.take pos, bitB c = true) ∧ n = .int .i64 (numV (l.take pos))

/-- What Num answers. -/
def numR (l : List UInt8) : Value := if numOk l then .tuple #[.int .i64 (numV l), .bool true] else .tuple #[.int .i64 0, .bool false]

theorem numR_yes (l : List UInt8) (h1 : 1 ≤ l.length) (h2 : l.length ≤ 62) (hb : ∀ c ∈ l, bitB c = true) : numR l = .tuple #[.int .i64 (numV l), .bool true] := by
  have : numOk l = true := by simp [numOk, h1, h2]; exact hb
  rw [numR, if_pos this]

theorem numR_no (l : List UInt8) (h : numOk l = false) : numR l = .tuple #[.int .i64 0, .bool false] := by
  rw [numR, h]; rfl

theorem numOk_no (l : List UInt8) (k : Nat) (hk : k < l.length) (h : bitB l[k] = false) : numOk l = false := by
  rw [numOk, Bool.and_eq_false_iff]
  right
  rw [List.all_eq_false]
  exact ⟨l[k], List.getElem_mem hk, by rw [h]; decide⟩

theorem or_bit (N : Nat) (c : UInt8) (hN : N < 2305843009213693952) (hc : c.toNat = 48 ∨ c.toNat = 49) :
    bits .or .i64 ((N : Int) * 2) (wrap64 (wrap32 ((c.toNat : Int) - 48))) = ((2 * N + if c = 49 then 1 else 0 : Nat) : Int) := by
  have h2 : (2 : Int) ^ 63 = 9223372036854775808 := by decide
  have hb : ∀ y : Int, 0 ≤ y → y < 2 → bits .or .i64 ((N : Int) * 2) y = (N : Int) * 2 + y := fun y h0 h1 =>
    bits_join .i64 63 (by decide) (fun n h0 h1 => wrap_small n h0 (by rw [h2] at h1; exact h1)) 1 ((N : Int) * 2) y (by omega) (by omega) (by rw [h2]; omega) h0 (by omega) (by rw [h2]; omega)
  rcases hc with hc | hc
  · have : ¬ c = 49 := fun e => by rw [e] at hc; exact absurd hc (by decide)
    rw [hc, if_neg this, show wrap64 (wrap32 (((48 : Nat) : Int) - 48)) = 0 by simp [wrap64, wrap32], hb 0 (by decide) (by decide)]
    omega
  · have : c = 49 := UInt8.toNat_inj.1 hc
    rw [hc, if_pos this, show wrap64 (wrap32 (((49 : Nat) : Int) - 48)) = 1 by simp [wrap64, wrap32], hb 1 (by decide) (by decide)]
    omega

theorem numV_take (l : List UInt8) (k : Nat) (hk : k < l.length) : numV (l.take (k + 1)) = 2 * numV (l.take k) + if l[k] = 49 then 1 else 0 := by
  rw [List.take_succ_eq_append_getElem hk, numV_snoc]

set_option maxHeartbeats 800000 in
theorem num_in (l : List UInt8) (w : World) (h1 : 1 ≤ l.length) (h2 : l.length ≤ 62) :
    Calls Try.prog 24 #[.string ⟨l.toArray⟩] w fun e w' => e = .returned (numR l) ∧ Below w.heap.size w w' := by
  have d1 : decide ((l.length : Int) < 1) = false := by simp; omega
  have d2 : decide ((62 : Int) < (l.length : Int)) = false := by simp; omega
  go_enter Try.func24, Try.ntmps24
  go_wp2
  go_loopw [4] (fun n w' => NumAt l w n w') (fun _ w' => l.length - w'.iterPos w.heap.size)
  case atStart => exact ⟨0, Nat.zero_le _, rfl, by simp, rfl⟩
  case round =>
    obtain ⟨pos, hp, rfl, hb, rfl⟩ := hrel
    have HB := Lib.hid hb
    clear hb
    have hv : numV (l.take pos) < 2 ^ pos := by have := numV_lt (l.take pos); rwa [List.length_take, Nat.min_eq_left hp] at this
    have HV := Lib.hid hv
    clear hv
    by_cases hlt : pos < l.length
    · have hv2 : numV (l.take pos) < 2305843009213693952 := by
        have : (2 : Nat) ^ pos ≤ 2 ^ 61 := Nat.pow_le_pow_right (by decide) (by omega)
        exact Nat.lt_of_lt_of_le HV.out this
      have HT := Lib.hid (numV_take l pos hlt)
      generalize numV (l.take pos) = N at *
      by_cases hbit : bitB l[pos] = true
      · have hbit' := (bit_toNat _).1 hbit
        have hnx := next_ascii l w pos hlt (by omega)
        have HB2 := Lib.hid (bits_snoc l pos hlt HB.out hbit)
        have HO := Lib.hid (or_bit N l[pos] hv2 hbit')
        have h3 : ((((l[pos].toNat : Nat) : Int) == 48) || (((l[pos].toNat : Nat) : Int) == 49)) = true := by simp; omega
        clear hbit hbit'
        go_wp2_with (go_at_call 34; refine (isBit_any _ _).mono ?_; rintro e w' ⟨rfl, rfl⟩; rw [h3])
        go_roundw
        case rel => exact ⟨pos + 1, by omega, rfl, HB2.out, by rw [HO.out, HT.out]⟩
        case measure => simp; omega
      · have HF := Lib.hid (numR_no l (numOk_no l pos hlt (by simpa using hbit)))
        by_cases ha : l[pos].toNat < 128
        · have hnx := next_ascii l w pos hlt ha
          have h3 : ((((l[pos].toNat : Nat) : Int) == 48) || (((l[pos].toNat : Nat) : Int) == 49)) = false := by
            rw [bit_toNat] at hbit
            simp; omega
          clear hbit
          go_wp2_with (go_at_call 34; refine (isBit_any _ _).mono ?_; rintro e w' ⟨rfl, rfl⟩; rw [h3])
          go_ret2
          exact ⟨congrArg Ending.returned HF.out.symm, below_iter _ _ _⟩
        · obtain ⟨r, wd, hr, hr2, hnx⟩ := next_high l w pos hlt ha
          have h3 : (((r : Int) == 48) || ((r : Int) == 49)) = false := by simp; omega
          clear hbit
          go_wp2_with (go_at_call 34; refine (isBit_any _ _).mono ?_; rintro e w' ⟨rfl, rfl⟩; rw [h3])
          go_ret2
          exact ⟨congrArg Ending.returned HF.out.symm, below_iter _ _ _⟩
    · have hnx := next_end l w pos hlt
      have ht : l.take pos = l := List.take_of_length_le (by omega)
      have HF := Lib.hid (numR_yes l h1 h2 (by have := HB.out; rw [ht] at this; exact this))
      rw [ht]
      clear ht
      go_wp2
      go_ret2
      exact ⟨congrArg Ending.returned HF.out.symm, below_iter _ _ _⟩

theorem num_any (l : List UInt8) (w : World) (hs : l.length ≤ 1099511627776) :
    Calls Try.prog 24 #[.string ⟨l.toArray⟩] w fun e w' => e = .returned (numR l) ∧ Below w.heap.size w w' := by
  by_cases h1 : l.length < 1
  · have HF := Lib.hid (numR_no l (by simp [numOk]; omega))
    have d1 : decide ((l.length : Int) < 1) = true := by simp; omega
    go_enter Try.func24, Try.ntmps24
    go_wp2
    go_ret2
    exact ⟨congrArg Ending.returned HF.out.symm, Below.refl _ _⟩
  by_cases h2 : 62 < l.length
  · have HF := Lib.hid (numR_no l (by simp [numOk]; omega))
    have d1 : decide ((l.length : Int) < 1) = false := by simp; omega
    have d2 : decide ((62 : Int) < (l.length : Int)) = true := by simp; omega
    go_enter Try.func24, Try.ntmps24
    go_wp2
    go_ret2
    exact ⟨congrArg Ending.returned HF.out.symm, Below.refl _ _⟩
  exact num_in l w (by omega) (by omega)

end Go.Proofs.Ytopjhhpbjpfbfaa

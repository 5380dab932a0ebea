/-
  Contracts of sym.Bits and sym.Num: for every number, size and text; nothing that was in memory is changed.
-/
import Derived.Test.YtbghpkdkfbpmeaaK2
import Derived.RegionTactic
import Derived.Deep.RegionHeld3
import Derived.Test.YtbghpkdkfbpmeaaK1
namespace Go.Proofs.Ytbghpkdkfbpmeaa
open Go.RowKit Plait
set_option maxRecDepth 100000
set_option linter.unusedVariables false

/-- The loop of Bits: the row's first k places hold the first k bits. -/
def BitsAt (n : Int) (size : Nat) (w : World) (i : Value) (w' : World) : Prop :=
  ∃ (k : Nat) (A : Array Value), k ≤ size ∧ i = .int .i64 k ∧ w' = w.alloc (.cells A 5) ∧ A.size = size ∧ ∀ j, j < k → A[j]? = some (.int .u8 ((bitAt n size j).toNat : Int))

set_option maxHeartbeats 800000 in
theorem bits_in (n : Int) (size : Nat) (w : World) (h1 : 1 ≤ size) (h2 : size ≤ 62) :
    Calls Try.prog 57 #[.int .i64 n, .int .i64 size] w fun e w' => e = .returned (.string ⟨(bitsL n size).toArray⟩) ∧ Below w.heap.size w w' := by
  obtain ⟨M, hM, hM0, hmk⟩ := make_bytes size (by omega)
  have HM := Lib.hid hM
  clear hM hM0
  have d1 : decide ((size : Int) < 1) = false := by simp; omega
  have d2 : decide ((62 : Int) < (size : Int)) = false := by simp; omega
  go_enter Try.func57, Try.ntmps57
  go_wp2
  go_loopw [17] (fun i w' => BitsAt n size w i w') (fun i _ => size - (intOf i).toNat)
  case atStart => exact ⟨0, M, Nat.zero_le _, rfl, rfl, HM.out, fun j hj => absurd hj (by omega)⟩
  case round =>
    obtain ⟨k, A, hk, rfl, rfl, hA, hAj⟩ := hrel
    by_cases hlt : k < size
    · obtain ⟨v0, hc⟩ : ∃ v, (w.alloc (.cells A 5)).cell? ⟨w.heap.size, k, none⟩ = some v := ⟨A[k]'(by omega), by rw [World.cell?_alloc_mark]; exact Array.getElem?_eq_getElem (by omega)⟩
      have HA := Lib.hid hA
      have HAj := Lib.hid hAj
      clear hA hAj
      go_wp2
      go_roundw
      case rel =>
        refine ⟨k + 1, _, by omega, by go_num, rfl, by simpa using HA.out, fun j hj => ?_⟩
        rw [Array.getElem?_setIfInBounds]
        by_cases hjk : k = j
        · subst hjk
          have hs := HA.out
          rw [if_pos rfl, if_pos (by omega), and_one, bitAt_toNat]
          congr 2
          omega
        · rw [if_neg hjk]
          exact HAj.out j (by omega)
      case measure => simp [intOf]; omega
    · have hback : (convert 38 9 (.slice (some ⟨w.heap.size, 0, none⟩) size size)).run Try.prog (w.alloc (.cells A 5)) = .ok (.string ⟨(bitsL n size).toArray⟩) (w.alloc (.cells A 5)) := by
        have h := run_convert_bytes_back (P := Try.prog) (w.alloc (.cells A 5)) 38 9 5 ⟨w.heap.size, 0, none⟩ size (bitsL n size) Try.underlying38 Try.underlying5 Try.underlying9 (fun j hj => by
          rw [addr_add, Nat.zero_add, World.cell?_alloc_mark, bitsL_get]
          exact hAj j (by rw [bitsL_length] at hj; omega))
        rw [bitsL_length] at h
        exact h
      clear hA hAj
      go_wp2
      go_ret
      exact ⟨rfl, (Below.refl _ w).alloc (Nat.le_refl _) _⟩

theorem bits_any (n size : Int) (w : World) :
    Calls Try.prog 57 #[.int .i64 n, .int .i64 size] w fun e w' => e = .returned (.string ⟨(bitsI n size).toArray⟩) ∧ Below w.heap.size w w' := by
  by_cases h1 : size < 1
  · have HF := Lib.hid (show bitsI n size = [] by unfold bitsI; rw [if_neg (by omega)])
    go_enter Try.func57, Try.ntmps57
    go_wp2
    go_ret
    exact ⟨ret_str HF.out.symm, Below.refl _ _⟩
  by_cases h2 : 62 < size
  · have HF := Lib.hid (show bitsI n size = [] by unfold bitsI; rw [if_neg (by omega)])
    go_enter Try.func57, Try.ntmps57
    go_wp2
    go_ret
    exact ⟨ret_str HF.out.symm, Below.refl _ _⟩
  obtain ⟨k, rfl⟩ := Int.eq_ofNat_of_zero_le (by omega : 0 ≤ size)
  have HF := Lib.hid (show bitsI n k = bitsL n k by unfold bitsI; rw [if_pos (by omega)]; rfl)
  refine (bits_in n k w (by omega) (by omega)).mono ?_
  rintro e w' ⟨rfl, hb⟩
  exact ⟨ret_str HF.out.symm, hb⟩

end Go.Proofs.Ytbghpkdkfbpmeaa
/-
  Contract of sym.Num: for every text; nothing that was in memory is changed.
-/
namespace Go.Proofs.Ytbghpkdkfbpmeaa
open Go.RowKit Plait
set_option maxRecDepth 100000
set_option linter.unusedVariables false

/-- The loop of Num: where it stands, that all bytes ahead of it are bits, and what they mean. -/
def NumAt (l : List UInt8) (w : World) (n : Value) (w' : World) : Prop :=
  ∃ pos : Nat, pos ≤ l.length ∧ w' = w.iter ⟨l.toArray⟩ pos ∧ (∀ c ∈ l.take pos, bitB c = true) ∧ n = .int .i64 (numV (l.take pos))

/-- What Num answers. -/
def numR (l : List UInt8) : Value := if numOk l then .tuple #[.int .i64 (numV l), .bool true] else .tuple #[.int .i64 0, .bool false]

theorem numR_yes (l : List UInt8) (h1 : 1 ≤ l.length) (h2 : l.length ≤ 62) (hb : ∀ c ∈ l, bitB c = true) : numR l = .tuple #[.int .i64 (numV l), .bool true] := by
  have : numOk l = true := by simp [numOk, h1, h2]; exact hb
  rw [numR, if_pos this]

theorem numR_no (l : List UInt8) (h : numOk l = false) : numR l = .tuple #[.int .i64 0, .bool false] := by
  rw [numR, h]; rfl

theorem numOk_no (l : List UInt8) (k : Nat) (hk : k < l.length) (h : bitB l[k] = false) : numOk l = false := by
  rw [numOk, Bool.and_eq_false_iff]
  right
  rw [List.all_eq_false]
  exact ⟨l[k], List.getElem_mem hk, by rw [h]; decide⟩

theorem or_bit (N : Nat) (c : UInt8) (hN : N < 2305843009213693952) (hc : c.toNat = 48 ∨ c.toNat = 49) :
    bits .or .i64 ((N : Int) * 2) (wrap64 (wrap32 ((c.toNat : Int) - 48))) = ((2 * N + if c = 49 then 1 else 0 : Nat) : Int) := by
  have h2 : (2 : Int) ^ 63 = 9223372036854775808 := by decide
  have hb : ∀ y : Int, 0 ≤ y → y < 2 → bits .or .i64 ((N : Int) * 2) y = (N : Int) * 2 + y := fun y h0 h1 =>
    bits_join .i64 63 (by decide) (fun n h0 h1 => wrap_small n h0 (by rw [h2] at h1; exact h1)) 1 ((N : Int) * 2) y (by omega) (by omega) (by rw [h2]; omega) h0 (by omega) (by rw [h2]; omega)
  rcases hc with hc | hc
  · have : ¬ c = 49 := fun e => by rw [e] at hc; exact absurd hc (by decide)
    rw [hc, if_neg this, show wrap64 (wrap32 (((48 : Nat) : Int) - 48)) = 0 by simp [wrap64, wrap32], hb 0 (by decide) (by decide)]
    omega
  · have : c = 49 := UInt8.toNat_inj.1 hc
    rw [hc, if_pos this, show wrap64 (wrap32 (((49 : Nat) : Int) - 48)) = 1 by simp [wrap64, wrap32], hb 1 (by decide) (by decide)]
    omega

theorem numV_take (l : List UInt8) (k : Nat) (hk : k < l.length) : numV (l.take (k + 1)) = 2 * numV (l.take k) + if l[k] = 49 then 1 else 0 := by
  rw [List.take_succ_eq_append_getElem hk, numV_snoc]

end Go.Proofs.Ytbghpkdkfbpmeaa
/-
  Contracts of the reference's symbols: the same answers as package sym's, for every input; nothing that was in memory is changed.
-/
namespace Go.Proofs.Ytbghpkdkfbpmeaa
open Go.RowKit Plait
set_option maxRecDepth 100000
set_option linter.unusedVariables false

@[go_sem] theorem app_mk (x y : List UInt8) : (⟨x.toArray⟩ ++ ⟨y.toArray⟩ : ByteArray) = ⟨(x ++ y).toArray⟩ := ByteArray.mk_append_mk x y

theorem byte_ne (c : UInt8) (n : Nat) (hn : n < 256) (h : c ≠ UInt8.ofNat n) : ((c.toNat : Int) == (n : Int)) = false := by
  rw [beq_eq_false_iff_ne]
  intro e
  apply h
  apply UInt8.toNat_inj.1
  simp [UInt8.toNat_ofNat', Nat.mod_eq_of_lt hn]
  omega

theorem rsymbol_any (c : UInt8) (w : World) :
    Calls Try.prog 37 #[.int .u8 c.toNat] w fun e w' => e = .returned (.bool (bitB c || c == 35)) ∧ w = w' := by
  by_cases h1 : c = 48
  · subst h1
    go_enter Try.func37, Try.ntmps37
    go_wp2
    go_ret
    exact ⟨rfl, rfl⟩
  by_cases h2 : c = 49
  · subst h2
    go_enter Try.func37, Try.ntmps37
    go_wp2
    go_ret
    exact ⟨rfl, rfl⟩
  by_cases h3 : c = 35
  · subst h3
    go_enter Try.func37, Try.ntmps37
    go_wp2
    go_ret
    exact ⟨rfl, rfl⟩
  have d1 : ((c.toNat : Int) == 48) = false := byte_ne c 48 (by decide) h1
  have d2 : ((c.toNat : Int) == 49) = false := byte_ne c 49 (by decide) h2
  have d3 : ((c.toNat : Int) == 35) = false := byte_ne c 35 (by decide) h3
  have HF := Lib.hid (show (bitB c || c == 35) = false by simp [bitB, h1, h2, h3])
  clear h1 h2 h3
  go_enter Try.func37, Try.ntmps37
  go_wp2
  go_ret
  exact ⟨ret_bool HF.out.symm, rfl⟩

/-- The reference's loop: where it stands, and that all bytes ahead of it are bits. -/
def RCleanAt (l : List UInt8) (i : Value) : Prop := ∃ k : Nat, k ≤ l.length ∧ i = .int .i64 k ∧ ∀ c ∈ l.take k, bitB c = true

set_option maxHeartbeats 400000 in
theorem rclean_any (l : List UInt8) (w : World) (hs : l.length ≤ 1099511627776) :
    Calls Try.prog 19 #[.string ⟨l.toArray⟩] w fun e w' => e = .returned (.string ⟨(clean l).toArray⟩) ∧ w = w' := by
  go_enter Try.func19, Try.ntmps19
  go_wp2
  go_loop [3] (fun i => RCleanAt l i) (fun i => l.length - (intOf i).toNat)
  case atStart => exact ⟨0, Nat.zero_le _, rfl, by simp⟩
  case round =>
    obtain ⟨k, hk, rfl, hb⟩ := hrel
    have HB := Lib.hid hb
    clear hb
    by_cases hlt : k < l.length
    · by_cases h35 : l[k] = 35
      · have d1 : ((l[k].toNat : Int) == 35) = true := by simp [h35]
        have d2 : (bitB l[k] || l[k] == 35) = true := by simp [h35]
        have HF := Lib.hid (slen_at_tail l k hlt HB.out h35)
        clear h35
        go_wp2_with (go_at_call 37; refine (rsymbol_any _ _).mono ?_; rintro e w' ⟨rfl, rfl⟩; rw [d2])
        go_ret
        exact ⟨ret_str (by rw [clean, HF.out]), rfl⟩
      · have d1 : ((l[k].toNat : Int) == 35) = false := byte_ne _ 35 (by decide) h35
        by_cases hbit : bitB l[k] = true
        · have d2 : (bitB l[k] || l[k] == 35) = true := by simp [hbit]
          have HN := Lib.hid (bits_snoc l k hlt HB.out hbit)
          clear h35 hbit
          go_wp2_with (go_at_call 37; refine (rsymbol_any _ _).mono ?_; rintro e w' ⟨rfl, rfl⟩; rw [d2])
          go_round
          case rel => exact ⟨k + 1, by omega, by go_num, HN.out⟩
          case measure => simp [intOf]; omega
        · have d2 : (bitB l[k] || l[k] == 35) = false := by simp [hbit, h35]
          have HF := Lib.hid (slen_at_other l k hlt HB.out h35 (by simpa using hbit))
          clear h35 hbit
          go_wp2_with (go_at_call 37; refine (rsymbol_any _ _).mono ?_; rintro e w' ⟨rfl, rfl⟩; rw [d2])
          go_ret
          exact ⟨ret_str (by rw [clean, HF.out]), rfl⟩
    · have HF := Lib.hid (slen_at_end l (by rw [show l.length = k by omega]; exact HB.out))
      go_wp2
      go_ret
      exact ⟨ret_str (by rw [clean, HF.out, List.take_length]), rfl⟩

end Go.Proofs.Ytbghpkdkfbpmeaa
/-
  Contracts of the reference's symbols, the rest: Front, Whole, Turn, Bits, Num.
-/
namespace Go.Proofs.Ytbghpkdkfbpmeaa
open Go.RowKit Plait
set_option maxRecDepth 100000
set_option linter.unusedVariables false

theorem byte_eq (c : UInt8) (n : Nat) (h : n < 256) : ((c.toNat : Int) == (n : Int)) = (c == UInt8.ofNat n) := by
  rw [Bool.eq_iff_iff, beq_iff_eq, beq_iff_eq]
  constructor
  · intro e
    apply UInt8.toNat_inj.1
    simp [UInt8.toNat_ofNat', Nat.mod_eq_of_lt h]
    omega
  · rintro rfl
    simp [UInt8.toNat_ofNat', Nat.mod_eq_of_lt h]

theorem front_take (l m : List UInt8) (h : l.length ≤ m.length) : frontB l m = (m.take l.length == l) := by
  unfold frontB
  rw [Bool.eq_iff_iff, List.isPrefixOf_iff_prefix, beq_iff_eq, List.prefix_iff_eq_take]
  exact eq_comm

theorem front_long (l m : List UInt8) (h : m.length < l.length) : frontB l m = false := by
  unfold frontB
  rw [Bool.eq_false_iff]
  intro e
  have := (List.isPrefixOf_iff_prefix.1 e).length_le
  omega

theorem clean_eq (l : List UInt8) : (clean l == l) = (slen l == l.length) := by
  have h := slen_le l
  rw [Bool.eq_iff_iff, beq_iff_eq, beq_iff_eq, clean]
  constructor
  · intro e
    have := congrArg List.length e
    rw [List.length_take] at this
    omega
  · intro e
    rw [e, List.take_length]

theorem last_get (l : List UInt8) (h : 0 < l.length) : l.getLast? = some (l[l.length - 1]) := by
  rw [List.getLast?_eq_getElem?, List.getElem?_eq_getElem]

theorem whole_last (l : List UInt8) (hpos : 0 < l.length) (h1 : slen l = l.length) : wholeB l = (l[l.length - 1]'(Nat.sub_lt hpos (by decide)) == 35) := by
  rw [wholeB, last_get l hpos, h1]; simp

theorem rturn_in (l : List UInt8) (k : Nat) (h : k < l.length) : l.take k ++ [other l[k]] ++ l.drop (k + 1) = l.set k (other l[k]) := by
  rw [List.set_eq_take_append_cons_drop, if_pos h]
  simp

theorem drop_take_one (l : List UInt8) (k : Nat) (h : k < l.length) : (l.drop k).take 1 = [l[k]] := by
  rw [List.drop_eq_getElem_cons h]; rfl

theorem rturn_fin (l : List UInt8) (k : Nat) (d c : UInt8) (h : other c = d) : l.take k ++ d :: (l.drop (k + 1)).take (l.length - (k + 1)) = l.take k ++ [other c] ++ l.drop (k + 1) := by
  have e : (l.drop (k + 1)).take (l.length - (k + 1)) = l.drop (k + 1) := List.take_of_length_le (by rw [List.length_drop]; exact Nat.le_refl _)
  rw [e, h]; simp

end Go.Proofs.Ytbghpkdkfbpmeaa
/-
  Contracts of the reference's Bits and Num.
-/
namespace Go.Proofs.Ytbghpkdkfbpmeaa
open Go.RowKit Plait
set_option maxRecDepth 100000
set_option linter.unusedVariables false

theorem bitsL_take (n : Int) (size k : Nat) (h : k < size) : (bitsL n size).take (k + 1) = (bitsL n size).take k ++ [bitAt n size k] := by
  rw [List.take_succ_eq_append_getElem (by rw [bitsL_length]; exact h), bitsL_get]

/-- The reference's loop of Bits: the first k bits are there. -/
def RBitsAt (n : Int) (size : Nat) (s i : Value) : Prop :=
  ∃ k : Nat, k ≤ size ∧ i = .int .i64 ((size : Int) - 1 - k) ∧ s = .string ⟨((bitsL n size).take k).toArray⟩

set_option maxHeartbeats 400000 in
theorem rbits_in (n : Int) (size : Nat) (w : World) (h1 : 1 ≤ size) (h2 : size ≤ 62) :
    Calls Try.prog 23 #[.int .i64 n, .int .i64 size] w fun e w' => e = .returned (.string ⟨(bitsL n size).toArray⟩) ∧ w = w' := by
  have d1 : decide ((size : Int) < 1) = false := by simp; omega
  have d2 : decide ((62 : Int) < (size : Int)) = false := by simp; omega
  go_enter Try.func23, Try.ntmps23
  go_wp2
  go_loop [5, 6] (fun s i => RBitsAt n size s i) (fun _ i => (intOf i + 1).toNat)
  case atStart => exact ⟨0, Nat.zero_le _, by simp, by simp⟩
  case round =>
    obtain ⟨k, hk, rfl, rfl⟩ := hrel
    have hlen : ((bitsL n size).take k).length ≤ 62 := by rw [List.length_take, bitsL_length]; omega
    by_cases hlt : k < size
    · obtain ⟨j, hj⟩ : ∃ j : Nat, (size : Int) - 1 - k = j := ⟨size - 1 - k, by omega⟩
      have hj2 : size - 1 - k = j := by omega
      have hT := bitsL_take n size k hlt
      rw [bitAt, hj2] at hT
      have HJ := Lib.hid hj
      have hjl : j ≤ 62 := by omega
      have hand := and_one (n / 2 ^ j)
      rw [hj]
      by_cases hb : n / 2 ^ j % 2 = 1
      · rw [if_pos hb] at hT
        have HT := Lib.hid hT
        have d3 : (n / 2 ^ j % 2 == 1) = true := by simpa using hb
        generalize (bitsL n size).take k = L at *
        clear hj hj2 hT hb
        go_wp2
        go_round
        case rel =>
          have e := HJ.out
          exact ⟨k + 1, by omega, congrArg (Value.int .i64) (by omega), by rw [HT.out]⟩
        case measure => simp [intOf]
      · rw [if_neg hb] at hT
        have HT := Lib.hid hT
        have d3 : (n / 2 ^ j % 2 == 1) = false := by simpa using hb
        generalize (bitsL n size).take k = L at *
        clear hj hj2 hT hb
        go_wp2
        go_round
        case rel =>
          have e := HJ.out
          exact ⟨k + 1, by omega, congrArg (Value.int .i64) (by omega), by rw [HT.out]⟩
        case measure => simp [intOf]
    · have hk' : (size : Int) - 1 - k = -1 := by omega
      rw [hk', List.take_of_length_le (by rw [bitsL_length]; omega)]
      clear hk' hlen
      go_wp2
      go_ret
      exact ⟨rfl, rfl⟩

theorem rbits_any (n size : Int) (w : World) :
    Calls Try.prog 23 #[.int .i64 n, .int .i64 size] w fun e w' => e = .returned (.string ⟨(bitsI n size).toArray⟩) ∧ w = w' := by
  by_cases h1 : size < 1
  · have HF := Lib.hid (show bitsI n size = [] by unfold bitsI; rw [if_neg (by omega)])
    go_enter Try.func23, Try.ntmps23
    go_wp2
    go_ret
    exact ⟨ret_str HF.out.symm, rfl⟩
  by_cases h2 : 62 < size
  · have HF := Lib.hid (show bitsI n size = [] by unfold bitsI; rw [if_neg (by omega)])
    go_enter Try.func23, Try.ntmps23
    go_wp2
    go_ret
    exact ⟨ret_str HF.out.symm, rfl⟩
  obtain ⟨k, rfl⟩ := Int.eq_ofNat_of_zero_le (by omega : 0 ≤ size)
  have HF := Lib.hid (show bitsI n k = bitsL n k by unfold bitsI; rw [if_pos (by omega)]; rfl)
  refine (rbits_in n k w (by omega) (by omega)).mono ?_
  rintro e w' ⟨rfl, hb⟩
  exact ⟨ret_str HF.out.symm, hb⟩

/-- The reference's loop of Num. -/
def RNumAt (l : List UInt8) (n i : Value) : Prop :=
  ∃ k : Nat, k ≤ l.length ∧ i = .int .i64 k ∧ (∀ c ∈ l.take k, bitB c = true) ∧ n = .int .i64 (numV (l.take k))

end Go.Proofs.Ytbghpkdkfbpmeaa
/-
  Contracts of the reference's sums: Sum, Wrap, Open, for every text; nothing that was in memory is changed.
-/
namespace Go.Proofs.Ytbghpkdkfbpmeaa
open Go.RowKit Plait
set_option maxRecDepth 100000
set_option linter.unusedVariables false

theorem reg_out (R : BitVec 16) : ((R.toNat : Int) / 32768 == 1) = R.msb := by
  have h := R.isLt
  rw [BitVec.msb_eq_decide, Bool.eq_iff_iff, beq_iff_eq, decide_eq_true_iff]
  simp only [Nat.reducePow, Nat.reduceSub] at *
  omega

theorem reg_up (R : BitVec 16) : bits .and .i64 ((R.toNat : Int) * 2) 65535 = ((R <<< 1).toNat : Int) := by
  have h := and_mask ((R.toNat : Int) * 2) 16 (by decide)
  rw [show ((2 : Int) ^ 16 - 1) = 65535 by decide, show ((2 : Int) ^ 16) = 65536 by decide] at h
  rw [h, BitVec.toNat_shiftLeft, Nat.shiftLeft_eq]
  simp only [Nat.reducePow]
  omega

theorem wrap_xor (a b : Nat) (ha : a < 65536) (hb : b < 65536) : bits .xor .i64 (a : Int) (b : Int) = ((a ^^^ b : Nat) : Int) := by
  have hdef : bits .xor .i64 (a : Int) (b : Int) = IntKind.i64.wrap ((BitVec.ofInt 64 (a : Int) ^^^ BitVec.ofInt 64 (b : Int)).toNat : Int) := rfl
  have e : ∀ n : Nat, n < 65536 → (BitVec.ofInt 64 (n : Int)).toNat = n := by
    intro n hn
    rw [BitVec.toNat_ofInt]
    simp only [Nat.reducePow]
    omega
  have hx : a ^^^ b < 2 ^ 16 := Nat.xor_lt_two_pow (by simpa using ha) (by simpa using hb)
  rw [hdef, BitVec.toNat_xor, e a ha, e b hb, wrap_small _ (by omega) (by omega)]

theorem reg_laid (X : BitVec 16) : bits .xor .i64 (X.toNat : Int) 4129 = ((X ^^^ 0x1021#16).toNat : Int) := by
  have h := X.isLt
  have := wrap_xor X.toNat 4129 (by simpa using h) (by decide)
  rw [BitVec.toNat_xor]
  exact this

theorem step_if (R : BitVec 16) (b : Bool) : stepB R b = if R.msb != b then (R <<< 1) ^^^ 0x1021#16 else R <<< 1 := by
  unfold stepB L
  cases R.msb <;> cases b <;> simp [BitVec.xor_assoc]

theorem sum_take (l : List UInt8) (k : Nat) (h : k < l.length) : sumB (l.take (k + 1)) = stepB (sumB (l.take k)) (l[k] == 49) := by
  rw [List.take_succ_eq_append_getElem h, sum_append]
  rfl

theorem byte49 (c : UInt8) : ((c.toNat : Int) == 49) = (c == 49) := byte_eq c 49 (by decide)

/-- The loop of the reference's Sum. -/
def RSumAt (l : List UInt8) (r i : Value) : Prop := ∃ k : Nat, k ≤ l.length ∧ i = .int .i64 k ∧ r = .int .i64 ((sumB (l.take k)).toNat : Int)

/-- What Open answers, as a value. -/
def openR (l : List UInt8) : Value := .tuple #[.string ⟨(openP l).1.toArray⟩, .int .i64 (openP l).2]

theorem openR_tail (l : List UInt8) (h : wholeB l = false) : openR l = .tuple #[.string ⟨#[]⟩, .int .i64 4] := by
  simp [openR, openP, h]
theorem openR_cut (l : List UInt8) (h : wholeB l = true) (h2 : l.length < 17) : openR l = .tuple #[.string ⟨#[]⟩, .int .i64 3] := by
  simp [openR, openP, h, h2]
theorem openR_sum (l : List UInt8) (n : Nat) (h : wholeB l = true) (h2 : l.length = n + 17) (h3 : ((l.drop n).take 16 == bitsL (sumI (l.take n)) 16) = false) : openR l = .tuple #[.string ⟨#[]⟩, .int .i64 5] := by
  have e : l.length - 17 = n := by omega
  have h3' : ¬ (l.drop n).take 16 = bitsL (sumI (l.take n)) 16 := by simpa using h3
  have h17 : ¬ l.length < 17 := by omega
  simp [openR, openP, h, h17, e, h3']
theorem openR_ok (l : List UInt8) (n : Nat) (h : wholeB l = true) (h2 : l.length = n + 17) (h3 : ((l.drop n).take 16 == bitsL (sumI (l.take n)) 16) = true) : openR l = .tuple #[.string ⟨(l.take n).toArray⟩, .int .i64 0] := by
  have e : l.length - 17 = n := by omega
  have h3' : (l.drop n).take 16 = bitsL (sumI (l.take n)) 16 := by simpa using h3
  have h17 : ¬ l.length < 17 := by omega
  simp [openR, openP, h, h17, e, h3']

end Go.Proofs.Ytbghpkdkfbpmeaa
/-
  Contracts of package crc: Sum of texts of bits, Wrap of them, Open of every text; nothing that was in memory is changed.
-/
namespace Go.Proofs.Ytbghpkdkfbpmeaa
open Go.RowKit Plait
set_option maxRecDepth 100000
set_option linter.unusedVariables false

theorem reg_top (R : BitVec 16) : (R.toNat : Int) / 32768 = if R.msb then 1 else 0 := by
  have h := reg_out R
  have hl := R.isLt
  simp only [Nat.reducePow] at hl
  cases hm : R.msb
  · rw [hm] at h; simp at h ⊢; omega
  · rw [hm] at h; simp at h ⊢; omega

theorem reg_up16 (R : BitVec 16) : IntKind.u16.wrap ((R.toNat : Int) * 2) = ((R <<< 1).toNat : Int) := by
  have hd : ∀ x : Int, IntKind.u16.wrap x = x % 65536 := fun x => by simp [IntKind.wrap, IntKind.signed, IntKind.bits]
  rw [hd, BitVec.toNat_shiftLeft, Nat.shiftLeft_eq]
  simp only [Nat.reducePow]
  omega

theorem reg_laid16 (X : BitVec 16) : bits .xor .u16 (X.toNat : Int) 4129 = ((X ^^^ 0x1021#16).toNat : Int) := by
  have h := X.isLt
  have hdef : bits .xor .u16 (X.toNat : Int) 4129 = IntKind.u16.wrap ((BitVec.ofInt 16 (X.toNat : Int) ^^^ BitVec.ofInt 16 4129).toNat : Int) := rfl
  have hd : ∀ x : Int, IntKind.u16.wrap x = x % 65536 := fun x => by simp [IntKind.wrap, IntKind.signed, IntKind.bits]
  have e : (BitVec.ofInt 16 (X.toNat : Int)).toNat = X.toNat := by
    rw [BitVec.toNat_ofInt]
    simp only [Nat.reducePow] at *
    omega
  have hx : X.toNat ^^^ 4129 < 2 ^ 16 := Nat.xor_lt_two_pow h (by decide)
  rw [hdef, BitVec.toNat_xor, BitVec.toNat_xor, e, hd, show (BitVec.ofInt 16 4129).toNat = 4129 by decide, show (0x1021#16).toNat = 4129 by decide]
  simp only [Nat.reducePow] at hx
  omega

set_option maxHeartbeats 800000 in
theorem step_any (R : BitVec 16) (c : UInt8) (w : World) (hc : bitB c = true) :
    Calls Try.prog 89 #[.int .u16 R.toNat, .int .i32 c.toNat] w fun e w' => e = .returned (.int .u16 (stepB R (c == 49)).toNat) ∧ w = w' := by
  have hbit := (bit_toNat _).1 hc
  have hx := R.isLt
  have h1 := reg_top R
  have h2 := reg_up16 R
  have h3 := reg_laid16 (R <<< 1)
  have HN := Lib.hid (show (stepB R (c == 49)).toNat = if R.msb != (c == 49) then ((R <<< 1) ^^^ 0x1021#16).toNat else (R <<< 1).toNat by rw [step_if]; split <;> rfl)
  have h4 : (c.toNat : Int) = 48 + if (c == 49) then 1 else 0 := by
    rcases hbit with h | h
    · rw [show (c == 49) = false by rw [beq_eq_false_iff_ne]; intro e; rw [e] at h; exact absurd h (by decide), h]; rfl
    · rw [show (c == 49) = true by rw [beq_iff_eq]; exact UInt8.toNat_inj.1 h, h]; rfl
  rw [h4]
  generalize (stepB R (c == 49)).toNat = q at *
  generalize ((R <<< 1) ^^^ 0x1021#16).toNat = z at *
  generalize (R <<< 1).toNat = y at *
  generalize R.toNat = x at *
  generalize R.msb = o at *
  generalize (c == 49) = b at *
  have hx' : x ≤ 65535 := by simp only [Nat.reducePow] at hx; omega
  clear hx hbit h4 hc
  cases o <;> cases b
  all_goals
    simp only [Bool.false_eq_true, if_true, if_false, bne_self_eq_false, Bool.bne_true, Bool.bne_false, Bool.not_false] at HN h1 ⊢
    go_enter Try.func89, Try.ntmps89
    go_wp2
    go_ret
    exact ⟨ret_int (by rw [HN.out]), rfl⟩

/-- The loop of Sum. -/
def SumAt (l : List UInt8) (w : World) (r : Value) (w' : World) : Prop :=
  ∃ k : Nat, k ≤ l.length ∧ w' = w.iter ⟨l.toArray⟩ k ∧ r = .int .u16 ((sumB (l.take k)).toNat : Int)

set_option maxHeartbeats 800000 in
theorem csum_any (l : List UInt8) (w : World) (hs : l.length ≤ 1048576) (hall : allBits l) :
    Calls Try.prog 86 #[.string ⟨l.toArray⟩] w fun e w' => e = .returned (.int .i64 (sumI l)) ∧ Below w.heap.size w w' := by
  have HA := Lib.hid hall
  clear hall
  go_enter Try.func86, Try.ntmps86
  go_wp2
  go_loopw [3] (fun r w' => SumAt l w r w') (fun _ w' => l.length - w'.iterPos w.heap.size)
  case atStart => exact ⟨0, Nat.zero_le _, rfl, by simp [sumB, vals, feed]⟩
  case round =>
    obtain ⟨k, hk, rfl, rfl⟩ := hrel
    by_cases hlt : k < l.length
    · have hB := HA.out l[k] (List.getElem_mem hlt)
      have hbit := (bit_toNat _).1 hB
      have hnx := next_ascii l w k hlt (by omega)
      have HT := Lib.hid (sum_take l k hlt)
      clear hbit
      generalize sumB (l.take k) = R at *
      go_wp2_with fail
      refine (step_any R l[k] _ hB).mono ?_
      rintro e wl ⟨rfl, rfl⟩
      rw [← HT.out]
      go_wp2
      go_roundw
      case rel => exact ⟨k + 1, by omega, rfl, rfl⟩
      case measure => simp; omega
    · have hnx := next_end l w k hlt
      rw [show l.take k = l from List.take_of_length_le (by omega)]
      have HS := Lib.hid (show ((sumB l).toNat : Int) = sumI l from rfl)
      have hx := (sumB l).isLt
      generalize (sumB l).toNat = x at *
      have hx' : x ≤ 65535 := by simp only [Nat.reducePow] at hx; omega
      clear hx
      go_wp2
      go_ret
      exact ⟨ret_int HS.out, below_iter _ _ _⟩

theorem csumBits_any (l : List UInt8) (w : World) (hs : l.length ≤ 1048576) (hall : allBits l) :
    Calls Try.prog 72 #[.string ⟨l.toArray⟩] w fun e w' => e = .returned (.string ⟨(bitsL (sumI l) 16).toArray⟩) ∧ Below w.heap.size w w' := by
  have hb : bitsI (sumI l) 16 = bitsL (sumI l) 16 := by unfold bitsI; rw [if_pos (by omega)]; rfl
  have HB := Lib.hid hb
  clear hb
  go_enter Try.func72, Try.ntmps72
  go_wp2_with fail
  refine (csum_any l _ (by omega) hall).mono ?_
  rintro e w1 ⟨rfl, hb1⟩
  go_wp2_with fail
  refine (bits_any _ _ _).mono ?_
  rintro e w2 ⟨rfl, hb2⟩
  rw [HB.out]
  go_wp2
  go_ret
  exact ⟨rfl, hb1.trans (hb2.mono hb1.size)⟩

theorem cwrap_any (l : List UInt8) (w : World) (hs : l.length ≤ 1048000) (hall : allBits l) :
    Calls Try.prog 59 #[.string ⟨l.toArray⟩] w fun e w' => e = .returned (.string ⟨(wrapL l).toArray⟩) ∧ Below w.heap.size w w' := by
  have hlb : (bitsL (sumI l) 16).length = 16 := bitsL_length _ _
  have HW := Lib.hid (show l ++ bitsL (sumI l) 16 ++ [35] = wrapL l from rfl)
  have hlb2 : (bitsL (sumI l) 16).length ≤ 16 := by omega
  clear hlb
  go_enter Try.func59, Try.ntmps59
  go_wp2_with fail
  refine (csumBits_any l _ (by omega) hall).mono ?_
  rintro e w1 ⟨rfl, hb1⟩
  generalize bitsL (sumI l) 16 = B at *
  go_wp2
  go_ret
  exact ⟨ret_str (by rw [← HW.out]; simp), hb1⟩

/-- The last 17 bytes of a whole text are the sum and the tail just where the 16 ahead of the tail are the sum. -/
theorem open_cmp (l : List UInt8) (n : Nat) (hw : wholeB l = true) (hn : l.length = n + 17) (B : List UInt8) (hB : B.length = 16) :
    ((l.drop n).take 17 == B ++ [35]) = ((l.drop n).take 16 == B) := by
  have hlast : l[n + 16]'(by omega) = 35 := by
    unfold wholeB at hw
    simp only [Bool.and_eq_true, beq_iff_eq] at hw
    have h := hw.1
    rw [List.getLast?_eq_getElem?, hn, List.getElem?_eq_getElem (by omega)] at h
    simpa using h
  have e : (l.drop n).take 17 = (l.drop n).take 16 ++ [35] := by
    rw [List.take_succ_eq_append_getElem (i := 16) (by simp; omega), List.getElem_drop, hlast]
  rw [e, Bool.eq_iff_iff, beq_iff_eq, beq_iff_eq]
  exact ⟨fun h => List.append_cancel_right h, fun h => by rw [h]⟩

theorem add_run (x y : List UInt8) (hx : x.length ≤ 1000) (hy : y.length ≤ 1000) : ∀ W : World, (Op.stringOp .add ⟨x.toArray⟩ ⟨y.toArray⟩).run Try.prog W = .ok (.string ⟨(x ++ y).toArray⟩) W := fun W => by
  rw [run_string_add_sum W _ _ (by rw [size_mk, size_mk]; omega), app_mk]

set_option maxHeartbeats 1600000 in
theorem copen_any (l : List UInt8) (w : World) (hs : l.length ≤ 1048576) :
    Calls Try.prog 64 #[.string ⟨l.toArray⟩] w fun e w' => e = .returned (openR l) ∧ Below w.heap.size w w' := by
  have hB : Below w.heap.size w w := Below.refl _ _
  by_cases hw : wholeB l = true
  · by_cases h17 : l.length < 17
    · have HF := Lib.hid (openR_cut l hw h17)
      have d : decide ((l.length : Int) - 1 - 16 < 0) = true := by simp; omega
      go_enter Try.func64, Try.ntmps64
      go_wp2_with fail
      refine (whole_any l _ (by omega)).mono ?_
      rintro e wn ⟨rfl, hb⟩
      replace hB := hB.trans (hb.mono hB.size)
      clear hb
      rw [hw]
      clear hw
      go_wp2
      go_ret2
      exact ⟨congrArg Ending.returned HF.out.symm, hB⟩
    · obtain ⟨n, hn⟩ : ∃ n, l.length = n + 17 := ⟨l.length - 17, by omega⟩
      have r0 : (l.length : Int) - 1 - 16 = (n : Int) := by omega
      have r3 : l.length - n = 17 := by omega
      have b1 : n ≤ l.length := by omega
      have g1 : (0 : Int) ≤ (n : Int) := by omega
      have g4 : (n : Int) ≤ (l.length : Int) := by omega
      have d : decide ((n : Int) < 0) = false := by simp
      have ht : (l.take n).length ≤ 1048576 := by rw [List.length_take]; omega
      have HN := Lib.hid hn
      have HA := Lib.hid (whole_take l n hw (by omega))
      have hc := open_cmp l n hw hn (bitsL (sumI (l.take n)) 16) (bitsL_length _ _)
      have hlB : (bitsL (sumI (l.take n)) 16).length ≤ 16 := by rw [bitsL_length]; omega
      have HS := Lib.hid (openR_sum l n hw hn)
      have HO := Lib.hid (openR_ok l n hw hn)
      have HR := Lib.hid (csumBits_any (l.take n))
      generalize bitsL (sumI (l.take n)) 16 = B at *
      have ad := add_run B [35] (by omega) (by simp)
      cases h3 : ((l.drop n).take 16 == B)
      · have HF := Lib.hid (HS.out h3)
        rw [h3] at hc
        clear hn HS HO h3
        go_enter Try.func64, Try.ntmps64
        go_wp2_with fail
        refine (whole_any l _ (by omega)).mono ?_
        rintro e wn ⟨rfl, hb⟩
        replace hB := hB.trans (hb.mono hB.size)
        clear hb
        rw [hw]
        clear hw
        go_wp2_with fail
        go_region_held3 (fun W => Below w.heap.size w W) (first | exact hB.drew | assumption | exact Below.trans ‹_› (hbm.mono (Below.size ‹_›)))
          (first
          | (go_at_call 72; refine (HR.out _ ?_ HA.out).mono ?_; omega; rintro e wm ⟨rfl, hbm⟩))
        go_wp2
        go_ret2
        exact ⟨congrArg Ending.returned HF.out.symm, by assumption⟩
      · have HF := Lib.hid (HO.out h3)
        rw [h3] at hc
        clear hn HS HO h3
        go_enter Try.func64, Try.ntmps64
        go_wp2_with fail
        refine (whole_any l _ (by omega)).mono ?_
        rintro e wn ⟨rfl, hb⟩
        replace hB := hB.trans (hb.mono hB.size)
        clear hb
        rw [hw]
        clear hw
        go_wp2_with fail
        go_region_held3 (fun W => Below w.heap.size w W) (first | exact hB.drew | assumption | exact Below.trans ‹_› (hbm.mono (Below.size ‹_›)))
          (first
          | (go_at_call 72; refine (HR.out _ ?_ HA.out).mono ?_; omega; rintro e wm ⟨rfl, hbm⟩))
        go_wp2_with fail
        refine (clone_any _ _ (by rw [size_mk]; omega)).mono ?_
        rintro e wq ⟨rfl, hbq⟩
        go_wp2
        go_ret2
        exact ⟨congrArg Ending.returned HF.out.symm, Below.trans ‹_› (hbq.mono (Below.size ‹_›))⟩
  · have hw' : wholeB l = false := by simpa using hw
    have HF := Lib.hid (openR_tail l hw')
    go_enter Try.func64, Try.ntmps64
    go_wp2_with fail
    refine (whole_any l _ (by omega)).mono ?_
    rintro e wn ⟨rfl, hb⟩
    replace hB := hB.trans (hb.mono hB.size)
    clear hb
    rw [hw']
    clear hw hw'
    go_wp2
    go_ret2
    exact ⟨congrArg Ending.returned HF.out.symm, hB⟩

end Go.Proofs.Ytbghpkdkfbpmeaa
/-
  Frames as they lie in memory: rows of items, boxes of frames.
-/
namespace Go.Proofs.Ytbghpkdkfbpmeaa
open Go.RowKit Plait
set_option maxRecDepth 100000
set_option linter.unusedVariables false

/-- A slice of items as it lies in memory. -/
def RowT (w : World) (a : Option Addr) (ts : List It) : Prop :=
  ts.length ≤ 9223372036854775807 ∧ (∀ t ∈ ts, inI t.K ∧ inI t.V) ∧
  (ts = [] ∨ ∃ b off : Nat, a = some ⟨b, off, none⟩ ∧ b < w.heap.size ∧ ∀ i (h : i < ts.length), w.cell? ⟨b, off + i * 2, none⟩ = some (.int .i64 ts[i].K) ∧ w.cell? ⟨b, off + i * 2 + 1, none⟩ = some (.int .i64 ts[i].V))

theorem RowT.later {w w1 : World} {a : Option Addr} {ts : List It} (h : RowT w a ts) (hb : Below w.heap.size w w1) : RowT w1 a ts := by
  obtain ⟨h1, h2, h3⟩ := h
  refine ⟨h1, h2, ?_⟩
  rcases h3 with h3 | ⟨b, off, e, hlt, hc⟩
  · exact .inl h3
  · exact .inr ⟨b, off, e, Nat.lt_of_lt_of_le hlt hb.size, fun i hi => ⟨by rw [hb.cell (p := ⟨b, off + i * 2, none⟩) hlt]; exact (hc i hi).1, by rw [hb.cell (p := ⟨b, off + i * 2 + 1, none⟩) hlt]; exact (hc i hi).2⟩⟩
theorem RowT.empty (w : World) (a : Option Addr) : RowT w a [] := ⟨by simp, by simp, .inl rfl⟩
theorem RowT.drew1 {w : World} {a : Option Addr} {ts : List It} (h : RowT w a ts) : RowT w.drew a ts := h.later (Below.refl _ _).drew
theorem RowT.drewN {w : World} {a : Option Addr} {ts : List It} (h : RowT w a ts) (n : Nat) : RowT (w.drewN n) a ts := h.later (below_drewN (Below.refl _ _) n)
theorem RowT.alloc {w : World} {a : Option Addr} {ts : List It} (h : RowT w a ts) (o : Obj) : RowT (w.alloc o) a ts := h.later ((Below.refl _ _).alloc (Nat.le_refl _) _)
theorem RowT.get {w : World} {a : Option Addr} {ts : List It} (h : RowT w a ts) (k : Nat) (hk : k < ts.length) :
    ∃ b off : Nat, a = some ⟨b, off, none⟩ ∧ b < w.heap.size ∧ w.cell? ⟨b, off + k * 2, none⟩ = some (.int .i64 ts[k].K) ∧ w.cell? ⟨b, off + k * 2 + 1, none⟩ = some (.int .i64 ts[k].V) ∧ inI ts[k].K ∧ inI ts[k].V := by
  obtain ⟨_, h2, h3⟩ := h
  rcases h3 with h3 | ⟨b, off, e, hlt, hc⟩
  · rw [h3] at hk; simp at hk
  · exact ⟨b, off, e, hlt, (hc k hk).1, (hc k hk).2, (h2 _ (List.getElem_mem hk)).1, (h2 _ (List.getElem_mem hk)).2⟩

/-- The cells of a frame's box. -/
def frBox (f : Fr) (a : Option Addr) (cap : Nat) : Array Value := #[.int .i64 f.K, .int .i64 f.R, .int .i64 f.S, .int .i64 f.P.K, .int .i64 f.P.V, .slice a f.E.length cap]

theorem ret_str5 {a b : List UInt8} (h : a = b) : Ending.returned (.string ⟨a.toArray⟩) = .returned (.string ⟨b.toArray⟩) := by rw [h]

/-- A call in a quiet region, by a contract that leaves the world. -/
theorem quiet_same5 {P : Program} {f : FuncId} {args : Array Value} {w : World} {n : Nat} {v : Value} (h : Calls P f args (w.drewN n) fun e w' => e = .returned v ∧ w.drewN n = w') : Calls P f args (w.drewN n) fun e w'' => e = .returned v ∧ ∃ m, w'' = w.drewN m :=
  h.mono fun _ _ ⟨he, hm⟩ => ⟨he, n, hm.symm⟩

theorem bitsI_of (x : Int) (k : Nat) (h1 : 1 ≤ k) (h2 : k ≤ 62) : bitsI x (k : Int) = bitsL x k := by unfold bitsI; rw [if_pos (by omega)]; rfl

theorem bitsI_len (x s : Int) : (bitsI x s).length ≤ 62 := by
  unfold bitsI
  split
  · rw [bitsL_length]; omega
  · simp

end Go.Proofs.Ytbghpkdkfbpmeaa
/-
  Classes of worlds by what holds on in them; facts that hold on where a call makes memory alone.
-/
namespace Go.Proofs.Ytbghpkdkfbpmeaa
open Go.RowKit Plait
set_option maxRecDepth 100000
set_option linter.unusedVariables false

/-- A fact that holds on where all that lay is as it was. -/
def Stable (R : World → Prop) : Prop := ∀ W W', R W → Below W.heap.size W W' → R W'

theorem stable_and {R S : World → Prop} (h : Stable R) (k : Stable S) : Stable fun W => R W ∧ S W := fun W W' ⟨a, b⟩ hb => ⟨h W W' a hb, k W W' b hb⟩
theorem stable_below (w : World) : Stable fun W => Below w.heap.size w W := fun W W' a hb => a.trans (hb.mono a.size)
theorem stable_blk (g : Nat) (t : TypeId) (cs : Array Value) : Stable fun W => Blk W g t cs := fun W W' a hb => a.later hb
theorem stable_row (a : Option Addr) (zs : List Int) : Stable fun W => Row W a zs := fun W W' h hb => h.later hb
theorem stable_rowT (a : Option Addr) (ts : List It) : Stable fun W => RowT W a ts := fun W W' h hb => h.later hb

theorem class_any (w : World) {R : World → Prop} (hR : Stable R) (h : R w) : ∃ (I : Type) (F : I → World) (i0 : I), F i0 = w.drew ∧ (∀ i, R (F i)) ∧ (∀ i w', Below (F i).heap.size (F i) w' → ∃ j, w' = F j) :=
  class_of w R (hR w _ h (Below.refl _ _).drew) hR

end Go.Proofs.Ytbghpkdkfbpmeaa
/-
  Contracts of plaitingref5, second part: texts of frames.
-/
namespace Go.Proofs.Ytbghpkdkfbpmeaa
open Go.RowKit Plait
set_option maxRecDepth 100000
set_option linter.unusedVariables false

/-- The loop over the items. -/
def TextAt (f : Fr) (a : Option Addr) (cap : Nat) (w : World) (s i : Value) (w' : World) : Prop :=
  ∃ k : Nat, k ≤ f.E.length ∧ i = .int .i64 k ∧ s = .string ⟨(frHead f ++ (f.E.take k).flatMap itBits).toArray⟩ ∧ Below w.heap.size w w' ∧ Blk w' (w.heap.size + 1) 82 (frBox f a cap)

theorem items_take (E : List It) (k : Nat) (h : k < E.length) : (E.take (k + 1)).flatMap itBits = (E.take k).flatMap itBits ++ itBits E[k] := by
  rw [List.take_succ_eq_append_getElem h, List.flatMap_append]
  simp

end Go.Proofs.Ytbghpkdkfbpmeaa
/-
  Contracts of plaitingref5, third part: whether frames are the same, whether one may be.
-/
namespace Go.Proofs.Ytbghpkdkfbpmeaa
open Go.RowKit Plait
set_option maxRecDepth 100000
set_option linter.unusedVariables false

/-- The loop of Items. -/
def ItemsAt (xs ys : List It) (w : World) (i : Value) (w' : World) : Prop := ∃ k : Nat, k ≤ xs.length ∧ i = .int .i64 k ∧ xs.take k = ys.take k ∧ Below w.heap.size w w'

theorem it_ext (a b : It) (h : a.K = b.K) (h2 : a.V = b.V) : a = b := by cases a; cases b; simp_all

theorem items_step (xs ys : List It) (k : Nat) (h : k < xs.length) (h2 : k < ys.length) (ha : xs.take k = ys.take k) (e : xs[k] = ys[k]) : xs.take (k + 1) = ys.take (k + 1) := by
  rw [List.take_succ_eq_append_getElem h, List.take_succ_eq_append_getElem h2, ha, e]
theorem items_no (xs ys : List It) (k : Nat) (h : k < xs.length) (h2 : k < ys.length) (e : xs[k] ≠ ys[k]) : decide (xs = ys) = false := by
  rw [decide_eq_false_iff_not]
  rintro rfl
  exact e rfl
theorem items_end (xs ys : List It) (k : Nat) (h : ¬ k < xs.length) (hl : xs.length = ys.length) (ha : xs.take k = ys.take k) : decide (xs = ys) = true := by
  rw [List.take_of_length_le (by omega), List.take_of_length_le (by omega)] at ha
  simp [ha]

theorem fr_dec (f g : Fr) (h1 : f.K = g.K) (h2 : f.R = g.R) (h3 : f.S = g.S) (h4 : f.P.K = g.P.K) (h5 : f.P.V = g.P.V) : decide (f = g) = decide (f.E = g.E) := by
  have hp := it_ext f.P g.P h4 h5
  cases f
  cases g
  simp_all

theorem fr_no (f g : Fr) (h : f.K ≠ g.K ∨ f.R ≠ g.R ∨ f.S ≠ g.S ∨ f.P.K ≠ g.P.K ∨ f.P.V ≠ g.P.V) : decide (f = g) = false := by
  rw [decide_eq_false_iff_not]
  rintro rfl
  simp at h

end Go.Proofs.Ytbghpkdkfbpmeaa
/-
  Contracts of plaitingref5, fourth part: whether a frame may be.
-/
namespace Go.Proofs.Ytbghpkdkfbpmeaa
open Go.RowKit Plait
set_option maxRecDepth 100000
set_option linter.unusedVariables false

/-- The loop over the items. -/
def CheckAt (c : Cf) (ca : Option Addr) (cc : Nat) (f : Fr) (a : Option Addr) (cap : Nat) (w : World) (i : Value) (w' : World) : Prop :=
  ∃ k : Nat, k ≤ f.E.length ∧ i = .int .i64 k ∧ (f.E.take k).all (itemB · false) = true ∧ Below w.heap.size w w' ∧ Blk w' (w.heap.size + 1) 82 (frBox f a cap)

theorem all_step (E : List It) (k : Nat) (h : k < E.length) (ha : (E.take k).all (itemB · false) = true) (e : itemB E[k] false = true) : (E.take (k + 1)).all (itemB · false) = true := by
  rw [List.take_succ_eq_append_getElem h, List.all_append, ha]
  simp [e]
theorem all_no (E : List It) (k : Nat) (h : k < E.length) (e : itemB E[k] false = false) : E.all (itemB · false) = false := by
  rw [Bool.eq_false_iff]
  intro hc
  have := List.all_eq_true.1 hc _ (List.getElem_mem h)
  rw [e] at this
  cases this
theorem all_end (E : List It) (k : Nat) (h : ¬ k < E.length) (ha : (E.take k).all (itemB · false) = true) : E.all (itemB · false) = true := by
  rwa [List.take_of_length_le (by omega)] at ha

end Go.Proofs.Ytbghpkdkfbpmeaa
/-
  Contracts of plaitingref5, fifth part: numbers and items of bits, frames of texts.
-/
namespace Go.Proofs.Ytbghpkdkfbpmeaa
open Go.RowKit Plait
set_option maxRecDepth 100000
set_option linter.unusedVariables false

theorem numR_form (l : List UInt8) : ∃ b, numR l = .tuple #[.int .i64 (num0 l), .bool b] := by
  unfold numR num0
  split
  · exact ⟨true, rfl⟩
  · exact ⟨false, rfl⟩

end Go.Proofs.Ytbghpkdkfbpmeaa
/-
  Rows of items that a call made itself.
-/
namespace Go.Proofs.Ytbghpkdkfbpmeaa
open Go.RowKit Plait
set_option maxRecDepth 100000
set_option linter.unusedVariables false

/-- The cells of items. -/
def itCells (ts : List It) : List Value := ts.flatMap fun t => [.int .i64 t.K, .int .i64 t.V]

theorem itCells_len : ∀ ts : List It, (itCells ts).length = ts.length * 2
  | [] => rfl
  | t :: r => by unfold itCells; rw [List.flatMap_cons, List.length_append, List.length_cons]; have := itCells_len r; unfold itCells at this; rw [this]; simp; omega

theorem itCells_get : ∀ (ts : List It) (i : Nat) (h : i < ts.length), (itCells ts)[i * 2]? = some (.int .i64 ts[i].K) ∧ (itCells ts)[i * 2 + 1]? = some (.int .i64 ts[i].V)
  | [], i, h => absurd h (by simp)
  | t :: r, 0, h => ⟨rfl, rfl⟩
  | t :: r, i + 1, h => by
    have ih := itCells_get r i (by simpa using h)
    have e : itCells (t :: r) = [.int .i64 t.K, .int .i64 t.V] ++ itCells r := by unfold itCells; rw [List.flatMap_cons]
    rw [e]
    constructor
    · rw [List.getElem?_append_right (by simp; omega), show (i + 1) * 2 - [Value.int .i64 t.K, Value.int .i64 t.V].length = i * 2 by simp; omega]
      exact ih.1
    · rw [List.getElem?_append_right (by simp; omega), show (i + 1) * 2 + 1 - [Value.int .i64 t.K, Value.int .i64 t.V].length = i * 2 + 1 by simp; omega]
      exact ih.2

theorem itCells_append (a b : List It) : itCells (a ++ b) = itCells a ++ itCells b := by simp [itCells]

/-- A row of items that the call made itself. -/
def OwnT (base : Nat) (w : World) (v : Value) (ts : List It) : Prop := w.ownsRow base 79 2 v ts.length (itCells ts)

theorem OwnT.nil (base : Nat) (w : World) : OwnT base w (.slice none 0 0) [] := World.ownsRow_nil w base _ 2

theorem OwnT.form {base : Nat} {w : World} {v : Value} {ts : List It} (h : OwnT base w v ts) : ∃ a cap, v = .slice a ts.length cap := by
  rcases h.2 with ⟨hv, h0⟩ | ⟨g, cap, cur, hv, _⟩
  · exact ⟨none, 0, by rw [hv, h0]⟩
  · exact ⟨_, _, hv⟩

theorem OwnT.lt {base : Nat} {w : World} {v : Value} {ts : List It} (h : OwnT base w v ts) : ∀ k, v.ownBlock = some k → base ≤ k ∧ k < w.heap.size := World.ownsRow.lt h
theorem OwnT.later {base : Nat} {w w' : World} {v : Value} {ts : List It} (h : OwnT base w v ts) (hb : Below w.heap.size w w') : OwnT base w' v ts := by
  refine World.ownsRow.kept (row := none) h ⟨hb.os, hb.tape, hb.output, hb.size, fun k hk _ => hb.block k hk⟩ ?_
  cases hv : v.ownBlock
  · exact .inl rfl
  · exact .inr (by simp)
theorem OwnT.far {base : Nat} {w : World} {v : Value} {ts : List It} (h : OwnT base w v ts) (p : Addr) (u : Value) (hp : p.block < base) : OwnT base (w.setCell p u) v ts := by
  refine World.ownsRow.kept (row := some p.block) h ⟨rfl, rfl, rfl, by simp [World.setCell], fun k hk hne => Below.heap_setCell w p u k (fun e => hne (by rw [e]))⟩ ?_
  cases hv : v.ownBlock with
  | none => exact .inl rfl
  | some g =>
    refine .inr (fun e => ?_)
    have := (h.lt g hv).1
    injection e with e
    omega

theorem OwnT.row {base : Nat} {w : World} {a : Option Addr} {n cap : Nat} {ts : List It} (h : OwnT base w (.slice a n cap) ts) (hl : ts.length ≤ 9223372036854775807) (hz : ∀ t ∈ ts, inI t.K ∧ inI t.V) : RowT w a ts := by
  refine ⟨hl, hz, ?_⟩
  rcases Nat.eq_zero_or_pos ts.length with h0 | h0
  · exact .inl (List.eq_nil_of_length_eq_zero h0)
  · rcases h.2 with ⟨_, h1⟩ | ⟨g, cap', cur, hv, hg, hb, hcap, hmax, hsz, ht⟩
    · omega
    · have hA : a = some ⟨g, 0, none⟩ := by injection hv
      subst hA
      refine .inr ⟨g, 0, rfl, (Array.getElem?_eq_some_iff.1 hb).1, fun i hi => ?_⟩
      have hc := fun j u (hj : (itCells ts)[j]? = some u) => World.ownsRow.cells h (g := g) rfl j u hj
      have hi2 := itCells_get ts i hi
      have c1 := hc _ _ hi2.1
      have c2 := hc _ _ hi2.2
      rw [addr_at] at c1 c2
      exact ⟨c1, c2⟩

theorem infoItem : (Try.prog.info? 79).map (fun i => (i.zero, i.size, i.bytes)) = some (some (.agg #[.int .i64 0, .int .i64 0]), 2, 16) := by kernel_rfl

/-- One item behind a row that the call made itself, at a step of a region that draws its order. -/
theorem step_appT {ops : Array Oper} {o : Oper} {a : Act} {K : Act → World → Prop} {Q : Exit → Act → World → Prop} {E : Prop} (w : World) (hgd : o.guard = none) (s x : Operand)
    (ho : o.op = .call { callee := .builtin .append, args := #[s, x], argTypes := #[80, 80] })
    (base : Nat) (v : Value) (ts : List It) (hs : a.eval s = v) (hown : OwnT base w v ts) (H c : Nat) (t : It) (hx : a.eval x = .slice (some ⟨H, 0, none⟩) 1 c)
    (hH : w.heap[H]? = some (.cells #[.int .i64 t.K, .int .i64 t.V] 79 (0, 0))) (hlen : ts.length ≤ 1000000) (hbase : base ≤ w.heap.size)
    (h : ∀ g cap w', OwnT base w' (.slice (some ⟨g, 0, none⟩) (ts.length + 1) cap) (ts ++ [t]) → w.grownBy w' v.ownBlock → (v.ownBlock = some g ∨ g = w.heap.size) → g < w'.heap.size →
      K (a.put o.dst (.slice (some ⟨g, 0, none⟩) (ts.length + 1) cap)) w') : if Region.wanted o (yielded ops a.tmps) = true then Oper.wp Try.prog o a w K Q else E := by
  obtain ⟨i, hi, hz0, hz1, hz2⟩ := info_parts infoItem
  refine step_append_lies w hgd s x _ ho base 79 i (.agg #[.int .i64 0, .int .i64 0]) 2 16 Try.underlying80 hi hz0 hz1 hz2 rfl (by omega) v ts.length _ hs hown ⟨H, 0, none⟩ 1 c [.int .i64 t.K, .int .i64 t.V] hx rfl
    (World.news_of_block hH) (by simp [Value.oneCell']) (by omega) (by unfold maxLen; omega) (by omega) hbase _ rfl ?_
  intro g cap w' h1 h2 h3 h4
  refine h g cap w' ?_ h2 h3 h4
  unfold OwnT
  rw [List.length_append, itCells_append]
  exact h1

/-- The same, at a plain region's list. -/
theorem wpList_appT {ops : Array Oper} {rest : List Oper} {o : Oper} {a : Act} {Q : Exit → Act → World → Prop} (w : World) (hgd : o.guard = none) (s x : Operand)
    (ho : o.op = .call { callee := .builtin .append, args := #[s, x], argTypes := #[80, 80] })
    (base : Nat) (v : Value) (ts : List It) (hs : a.eval s = v) (hown : OwnT base w v ts) (H c : Nat) (t : It) (hx : a.eval x = .slice (some ⟨H, 0, none⟩) 1 c)
    (hH : w.heap[H]? = some (.cells #[.int .i64 t.K, .int .i64 t.V] 79 (0, 0))) (hlen : ts.length ≤ 1000000) (hbase : base ≤ w.heap.size)
    (h : ∀ g cap w', OwnT base w' (.slice (some ⟨g, 0, none⟩) (ts.length + 1) cap) (ts ++ [t]) → w.grownBy w' v.ownBlock → (v.ownBlock = some g ∨ g = w.heap.size) → g < w'.heap.size →
      wpList Try.prog ops Q rest (a.put o.dst (.slice (some ⟨g, 0, none⟩) (ts.length + 1) cap)) w') : wpList Try.prog ops Q (o :: rest) a w := by
  obtain ⟨i, hi, hz0, hz1, hz2⟩ := info_parts infoItem
  refine wpList_append_lies w hgd s x _ ho base 79 i (.agg #[.int .i64 0, .int .i64 0]) 2 16 Try.underlying80 hi hz0 hz1 hz2 rfl (by omega) v ts.length _ hs hown ⟨H, 0, none⟩ 1 c [.int .i64 t.K, .int .i64 t.V] hx rfl
    (World.news_of_block hH) (by simp [Value.oneCell']) (by omega) (by unfold maxLen; omega) (by omega) hbase _ rfl ?_
  intro g cap w' h1 h2 h3 h4
  refine h g cap w' ?_ h2 h3 h4
  unfold OwnT
  rw [List.length_append, itCells_append]
  exact h1

end Go.Proofs.Ytbghpkdkfbpmeaa
/-
  Contracts of plaitingref5, sixth part: frames of texts.
-/
namespace Go.Proofs.Ytbghpkdkfbpmeaa
open Go.RowKit Plait
set_option maxRecDepth 100000
set_option linter.unusedVariables false

/-- What a call answers that reads a frame. -/
def ReadRet (p : Fr × Int) (w : World) (e : Ending) (w' : World) : Prop :=
  ∃ (a : Option Addr) (cap : Nat), e = .returned (.tuple #[.agg #[.int .i64 p.1.K, .int .i64 p.1.R, .int .i64 p.1.S, .int .i64 p.1.P.K, .int .i64 p.1.P.V, .slice a p.1.E.length cap], .int .i64 p.2]) ∧ RowT w' a p.1.E ∧ (∀ x, a = some x → w.heap.size ≤ x.block) ∧ Below w.heap.size w w'

/-- An empty frame's box. -/
def zeroBox : Array Value := #[.int .i64 0, .int .i64 0, .int .i64 0, .int .i64 0, .int .i64 0, .slice none 0 0]

theorem open_len (l : List UInt8) : (openP l).1.length ≤ l.length := by
  unfold openP
  split
  · simp
  · split
    · simp
    · split
      · show (l.take _).length ≤ _
        rw [List.length_take]; omega
      · simp

theorem itsOf_succ (l : List UInt8) (k : Nat) : itsOf l (k + 1) = itsOf l k ++ [itOf ((l.drop (10 * k)).take 10)] := by simp [itsOf, List.range_succ]
theorem itsOf_len (l : List UInt8) (k : Nat) : (itsOf l k).length = k := by simp [itsOf]
theorem itOf_in (l : List UInt8) : inI (itOf l).K ∧ inI (itOf l).V := by
  have h1 := num0_range (l.take 2) 2 (by rw [List.length_take]; omega)
  have h2 := num0_range ((l.drop 2).take 8) 8 (by rw [List.length_take]; omega)
  unfold itOf inI
  simp only
  omega
theorem itsOf_in (l : List UInt8) (k : Nat) : ∀ t ∈ itsOf l k, inI t.K ∧ inI t.V := by
  intro t ht
  unfold itsOf at ht
  rw [List.mem_map] at ht
  obtain ⟨i, _, rfl⟩ := ht
  exact itOf_in _

theorem readF_err (c : Cf) (l b : List UInt8) (e : Int) (h : openP l = (b, e)) (he : e ≠ 0) : readF c l = (zeroF, e) := by unfold readF; rw [h]; simp [he]
theorem readF_ok (c : Cf) (l b : List UInt8) (h : openP l = (b, 0)) : readF c l = readB c b := by unfold readF; rw [h]; simp
theorem readB_cut (c : Cf) (b : List UInt8) (h : b.length < 34) : readB c b = (zeroF, 3) := by unfold readB; rw [if_pos h]
theorem readB_long (c : Cf) (b : List UInt8) (h : ¬ b.length < 34) (h2 : (b.length : Int) - 34 ≠ 10 * echoI c (frOf b).K (frOf b).S) : readB c b = (zeroF, 2) := by unfold readB; rw [if_neg h, if_pos h2]
theorem readB_check (c : Cf) (b : List UInt8) (h : ¬ b.length < 34) (h2 : (b.length : Int) - 34 = 10 * echoI c (frOf b).K (frOf b).S) (e : Int) (he : checkF c ((frOf b).with (itsOf (b.drop 34) ((b.length - 34) / 10))) = e) (h3 : e ≠ 0) : readB c b = (zeroF, e) := by
  unfold readB
  rw [if_neg h, if_neg (by omega), he, if_pos h3]
theorem readB_ok (c : Cf) (b : List UInt8) (h : ¬ b.length < 34) (h2 : (b.length : Int) - 34 = 10 * echoI c (frOf b).K (frOf b).S) (he : checkF c ((frOf b).with (itsOf (b.drop 34) ((b.length - 34) / 10))) = 0) : readB c b = ((frOf b).with (itsOf (b.drop 34) ((b.length - 34) / 10)), 0) := by
  unfold readB
  rw [if_neg h, if_neg (by omega), he, if_neg (by simp)]

/-- Where the frame that is read stands, boxed at g. -/
def ReadG (c : Cf) (ca : Option Addr) (cc : Nat) (K R S PK PV : Int) (w : World) (g : Nat) (v : Value) (wx : World) : Prop :=
  Below w.heap.size w wx ∧ Blk wx w.heap.size 24 (confBox c ca cc) ∧ Blk wx (w.heap.size + 1) 82 zeroBox ∧ w.heap.size + 1 < g ∧
    Blk wx g 82 #[.int .i64 K, .int .i64 R, .int .i64 S, .int .i64 PK, .int .i64 PV, v]

/-- What holds on while the frame's parts are read. -/
def HeldR (c : Cf) (ca : Option Addr) (cc : Nat) (w W : World) : Prop := Below w.heap.size w W ∧ Blk W w.heap.size 24 (confBox c ca cc) ∧ Blk W (w.heap.size + 1) 82 zeroBox
theorem HeldR.next {c : Cf} {ca : Option Addr} {cc : Nat} {w W W' : World} (h : HeldR c ca cc w W) (hb : Below W.heap.size W W') : HeldR c ca cc w W' := ⟨h.1.trans (hb.mono h.1.size), h.2.1.later hb, h.2.2.later hb⟩

theorem HeldR.set {c : Cf} {ca : Option Addr} {cc : Nat} {w W : World} (h : HeldR c ca cc w W) {g : Nat} (hg : w.heap.size + 1 < g) (k : Nat) (u : Value) : HeldR c ca cc w (W.setCell ⟨g, k, none⟩ u) :=
  ⟨h.1.setCell (by show w.heap.size ≤ g; omega) u, h.2.1.far (by show w.heap.size ≠ g; omega) u, h.2.2.far (by show w.heap.size + 1 ≠ g; omega) u⟩

theorem readG_alloc {c : Cf} {ca : Option Addr} {cc : Nat} {w wn wm : World} (K R S PK PV : Int) (h : HeldR c ca cc w wn) (hb : Below wn.drew.heap.size wn.drew wm) :
    ReadG c ca cc K R S PK PV w wm.heap.size (.slice none 0 0) (wm.alloc (.cells #[.int .i64 K, .int .i64 R, .int .i64 S, .int .i64 PK, .int .i64 PV, .slice none 0 0] 82)) := by
  have h2 := (h.next (Below.refl _ wn).drew).next hb
  exact ⟨h2.1.alloc h2.1.size _, h2.2.1.alloc _, h2.2.2.alloc _, h2.2.2.lt, Blk.new wm _ _⟩

theorem readG_set {c : Cf} {ca : Option Addr} {cc : Nat} {w wn wm : World} (K R S PK PV : Int) (h : HeldR c ca cc w wn) (hb : Below (wn.alloc (.cells zeroBox 82)).drew.heap.size (wn.alloc (.cells zeroBox 82)).drew wm) (hx : Blk wm wn.heap.size 82 zeroBox) :
    ReadG c ca cc K R S PK PV w wn.heap.size (.slice none 0 0) ((((((wm.setCell ⟨wn.heap.size, 0, none⟩ (.int .i64 K)).setCell ⟨wn.heap.size, 1, none⟩ (.int .i64 R)).setCell ⟨wn.heap.size, 2, none⟩ (.int .i64 S)).setCell
        ⟨wn.heap.size, 3, none⟩ (.int .i64 PK)).setCell ⟨wn.heap.size, 4, none⟩ (.int .i64 PV)).setCell ⟨wn.heap.size, 5, none⟩ (.slice none 0 0)) := by
  have hg := h.2.2.lt
  have h2 := ((h.next (alloc_below wn _)).next (Below.refl _ _).drew).next hb
  have h3 := ((((((h2.set hg 0 (.int .i64 K)).set hg 1 (.int .i64 R)).set hg 2 (.int .i64 S)).set hg 3 (.int .i64 PK)).set hg 4 (.int .i64 PV)).set hg 5 (.slice none 0 0))
  exact ⟨h3.1, h3.2.1, h3.2.2, hg, ((((((hx.set 0 (.int .i64 K)).set 1 (.int .i64 R)).set 2 (.int .i64 S)).set 3 (.int .i64 PK)).set 4 (.int .i64 PV)).set 5 (.slice none 0 0))⟩

/-- The loop over the items. -/
def ReadAt (c : Cf) (ca : Option Addr) (cc : Nat) (K R S PK PV : Int) (b : List UInt8) (w : World) (g : Nat) (i : Value) (wx : World) : Prop :=
  ∃ (k p : Nat) (v : Value), p = 34 + 10 * k ∧ p ≤ b.length ∧ i = .int .i64 p ∧ ReadG c ca cc K R S PK PV w g v wx ∧ OwnT (g + 1) wx v (itsOf (b.drop 34) k)

attribute [local irreducible] num0 itOf

end Go.Proofs.Ytbghpkdkfbpmeaa
/-
  plaitinglaw5's own helpers: within, Item, Few.
-/
namespace Go.Proofs.Ytbghpkdkfbpmeaa
open Go.RowKit Plait
set_option maxRecDepth 100000
set_option linter.unusedVariables false

theorem tdiv3 (n : Int) (h1 : -9223372036854775808 ≤ n) (h2 : n ≤ 9223372036854775807) : -9223372036854775808 ≤ n.tdiv 3 ∧ n.tdiv 3 ≤ 9223372036854775807 := by
  rcases Int.le_total 0 n with h | h
  · rw [Int.tdiv_eq_ediv_of_nonneg h]; omega
  · have e : n.tdiv 3 = -((-n) / 3) := by rw [show n = -(-n) by omega, Int.neg_tdiv, Int.tdiv_eq_ediv_of_nonneg (by omega)]; simp
    rw [e]; omega

end Go.Proofs.Ytbghpkdkfbpmeaa

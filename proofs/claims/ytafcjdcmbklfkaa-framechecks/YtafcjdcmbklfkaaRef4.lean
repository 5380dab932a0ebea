/-
  Contracts of the reference's sums: Sum, Wrap, Open, for every text; nothing that was in memory is changed.
-/
import Derived.Test.YtafcjdcmbklfkaaRef3
import Derived.Test.YtafcjdcmbklfkaaCrc2
import Derived.Deep.RegionHeld3
namespace Go.Proofs.Ytafcjdcmbklfkaa
open Go.RowKit Plait
set_option linter.unusedVariables false

theorem reg_out (R : BitVec 16) : ((R.toNat : Int) / 32768 == 1) = R.msb := by
  have h := R.isLt
  rw [BitVec.msb_eq_decide, Bool.eq_iff_iff, beq_iff_eq, decide_eq_true_iff]
  simp only [Nat.reducePow, Nat.reduceSub] at *
  omega

theorem reg_up (R : BitVec 16) : bits .and .i64 ((R.toNat : Int) * 2) 65535 = ((R <<< 1).toNat : Int) := by
  have h := and_mask ((R.toNat : Int) * 2) 16 (by decide)
  rw [show ((2 : Int) ^ 16 - 1) = 65535 by decide, show ((2 : Int) ^ 16) = 65536 by decide] at h
  rw [h, BitVec.toNat_shiftLeft, Nat.shiftLeft_eq]
  simp only [Nat.reducePow]
  omega

theorem wrap_xor (a b : Nat) (ha : a < 65536) (hb : b < 65536) : bits .xor .i64 (a : Int) (b : Int) = ((a ^^^ b : Nat) : Int) := by
  have hdef : bits .xor .i64 (a : Int) (b : Int) = IntKind.i64.wrap ((BitVec.ofInt 64 (a : Int) ^^^ BitVec.ofInt 64 (b : Int)).toNat : Int) := rfl
  have e : ∀ n : Nat, n < 65536 → (BitVec.ofInt 64 (n : Int)).toNat = n := by
    intro n hn
    rw [BitVec.toNat_ofInt]
    simp only [Nat.reducePow]
    omega
  have hx : a ^^^ b < 2 ^ 16 := Nat.xor_lt_two_pow (by simpa using ha) (by simpa using hb)
  rw [hdef, BitVec.toNat_xor, e a ha, e b hb, wrap_small _ (by omega) (by omega)]

theorem reg_laid (X : BitVec 16) : bits .xor .i64 (X.toNat : Int) 4129 = ((X ^^^ 0x1021#16).toNat : Int) := by
  have h := X.isLt
  have := wrap_xor X.toNat 4129 (by simpa using h) (by decide)
  rw [BitVec.toNat_xor]
  exact this

theorem step_if (R : BitVec 16) (b : Bool) : stepB R b = if R.msb != b then (R <<< 1) ^^^ 0x1021#16 else R <<< 1 := by
  unfold stepB L
  cases R.msb <;> cases b <;> simp [BitVec.xor_assoc]

theorem sum_take (l : List UInt8) (k : Nat) (h : k < l.length) : sumB (l.take (k + 1)) = stepB (sumB (l.take k)) (l[k] == 49) := by
  rw [List.take_succ_eq_append_getElem h, sum_append]
  rfl

theorem byte49 (c : UInt8) : ((c.toNat : Int) == 49) = (c == 49) := byte_eq c 49 (by decide)

/-- The loop of the reference's Sum. -/
def RSumAt (l : List UInt8) (r i : Value) : Prop := ∃ k : Nat, k ≤ l.length ∧ i = .int .i64 k ∧ r = .int .i64 ((sumB (l.take k)).toNat : Int)

set_option maxHeartbeats 800000 in
theorem rsum_any (l : List UInt8) (w : World) (hs : l.length ≤ 1099511627776) :
    Calls Try.prog 56 #[.string ⟨l.toArray⟩] w fun e w' => e = .returned (.int .i64 (sumI l)) ∧ w = w' := by
  go_enter Try.func56, Try.ntmps56
  go_wp2
  go_loop [3, 4] (fun r i => RSumAt l r i) (fun _ i => l.length - (intOf i).toNat)
  case atStart => exact ⟨0, Nat.zero_le _, rfl, by simp [sumB, vals, feed]⟩
  case round =>
    obtain ⟨k, hk, rfl, rfl⟩ := hrel
    by_cases hlt : k < l.length
    · have hT := sum_take l k hlt
      rw [step_if] at hT
      have h49 := byte49 l[k]
      have hx := (sumB (l.take k)).isLt
      have h1 := reg_out (sumB (l.take k))
      have h2 := reg_up (sumB (l.take k))
      have h3 := reg_laid (sumB (l.take k) <<< 1)
      have HN := Lib.hid (show (sumB (l.take (k + 1))).toNat = if (sumB (l.take k)).msb != (l[k] == 49) then ((sumB (l.take k) <<< 1) ^^^ 0x1021#16).toNat else (sumB (l.take k) <<< 1).toNat by rw [hT]; split <;> rfl)
      clear hT
      generalize ((sumB (l.take k) <<< 1) ^^^ 0x1021#16).toNat = z at *
      generalize (sumB (l.take k) <<< 1).toNat = y at *
      generalize (sumB (l.take k)).toNat = x at *
      generalize (sumB (l.take k)).msb = o at *
      generalize (l[k] == 49) = b at *
      have hx' : x ≤ 65535 := by simp only [Nat.reducePow] at hx; omega
      clear hx
      rw [bne] at HN
      cases hd : (o == b)
      · rw [hd, if_pos (by simp)] at HN
        go_wp2
        go_round
        case rel => exact ⟨k + 1, by omega, by go_num, by rw [HN.out]⟩
        case measure => simp [intOf]; omega
      · rw [hd, if_neg (by simp)] at HN
        go_wp2
        go_round
        case rel => exact ⟨k + 1, by omega, by go_num, by rw [HN.out]⟩
        case measure => simp [intOf]; omega
    · rw [show l.take k = l from List.take_of_length_le (by omega)]
      have HS := Lib.hid (show ((sumB l).toNat : Int) = sumI l from rfl)
      generalize (sumB l).toNat = x at *
      go_wp2
      go_ret
      exact ⟨ret_int HS.out, rfl⟩

theorem rwrap_any (l : List UInt8) (w : World) (hs : l.length ≤ 1048576) :
    Calls Try.prog 28 #[.string ⟨l.toArray⟩] w fun e w' => e = .returned (.string ⟨(wrapL l).toArray⟩) ∧ w = w' := by
  have hb : bitsI (sumI l) 16 = bitsL (sumI l) 16 := by unfold bitsI; rw [if_pos (by omega)]; rfl
  have hlb : (bitsL (sumI l) 16).length = 16 := bitsL_length _ _
  have HW := Lib.hid (show l ++ bitsL (sumI l) 16 ++ [35] = wrapL l from rfl)
  have HB := Lib.hid hb
  have hlb2 : (bitsL (sumI l) 16).length ≤ 16 := by omega
  clear hb hlb
  go_enter Try.func28, Try.ntmps28
  go_wp2_with fail
  refine (rsum_any l _ (by omega)).mono ?_
  rintro e w1 ⟨rfl, rfl⟩
  go_wp2_with fail
  refine (rbits_any _ _ _).mono ?_
  rintro e w1 ⟨rfl, rfl⟩
  rw [HB.out]
  generalize bitsL (sumI l) 16 = B at *
  go_wp2
  go_ret
  exact ⟨ret_str (by rw [← HW.out]; simp), rfl⟩

/-- What Open answers, as a value. -/
def openR (l : List UInt8) : Value := .tuple #[.string ⟨(openP l).1.toArray⟩, .int .i64 (openP l).2]

theorem openR_tail (l : List UInt8) (h : wholeB l = false) : openR l = .tuple #[.string ⟨#[]⟩, .int .i64 4] := by
  simp [openR, openP, h]
theorem openR_cut (l : List UInt8) (h : wholeB l = true) (h2 : l.length < 17) : openR l = .tuple #[.string ⟨#[]⟩, .int .i64 3] := by
  simp [openR, openP, h, h2]
theorem openR_sum (l : List UInt8) (n : Nat) (h : wholeB l = true) (h2 : l.length = n + 17) (h3 : ((l.drop n).take 16 == bitsL (sumI (l.take n)) 16) = false) : openR l = .tuple #[.string ⟨#[]⟩, .int .i64 5] := by
  have e : l.length - 17 = n := by omega
  have h3' : ¬ (l.drop n).take 16 = bitsL (sumI (l.take n)) 16 := by simpa using h3
  have h17 : ¬ l.length < 17 := by omega
  simp [openR, openP, h, h17, e, h3']
theorem openR_ok (l : List UInt8) (n : Nat) (h : wholeB l = true) (h2 : l.length = n + 17) (h3 : ((l.drop n).take 16 == bitsL (sumI (l.take n)) 16) = true) : openR l = .tuple #[.string ⟨(l.take n).toArray⟩, .int .i64 0] := by
  have e : l.length - 17 = n := by omega
  have h3' : (l.drop n).take 16 = bitsL (sumI (l.take n)) 16 := by simpa using h3
  have h17 : ¬ l.length < 17 := by omega
  simp [openR, openP, h, h17, e, h3']

set_option maxHeartbeats 1600000 in
theorem ropen_any (l : List UInt8) (w : World) (hs : l.length ≤ 1048576) :
    Calls Try.prog 57 #[.string ⟨l.toArray⟩] w fun e w' => e = .returned (openR l) ∧ Below w.heap.size w w' := by
  have hB : Below w.heap.size w w := Below.refl _ _
  by_cases hw : wholeB l = true
  · by_cases h17 : l.length < 17
    · have HF := Lib.hid (openR_cut l hw h17)
      have d : decide ((l.length : Int) - 1 - 16 < 0) = true := by simp; omega
      go_enter Try.func57, Try.ntmps57
      go_wp2_with fail
      refine (rwhole_any l _ (by omega)).mono ?_
      rintro e w1 ⟨rfl, rfl⟩
      rw [hw]
      clear hw
      go_wp2
      go_ret2
      exact ⟨congrArg Ending.returned HF.out.symm, hB⟩
    · obtain ⟨n, hn⟩ : ∃ n, l.length = n + 17 := ⟨l.length - 17, by omega⟩
      obtain ⟨m, hm⟩ : ∃ m, m = n + 16 := ⟨_, rfl⟩
      have r1 : (l.length : Int) - 1 = (m : Int) := by omega
      have r2 : (m : Int) - 16 = (n : Int) := by omega
      have r3 : m - n = 16 := by omega
      have r4 : IntKind.i64.wrap (m : Int) = (m : Int) := wrap_small _ (by omega) (by omega)
      have b1 : n ≤ l.length := by omega
      have b2 : m ≤ l.length := by omega
      have b3 : n ≤ m := by omega
      have g1 : (0 : Int) ≤ (n : Int) := by omega
      have g2 : (n : Int) ≤ (m : Int) := by omega
      have g3 : (m : Int) ≤ (l.length : Int) := by omega
      have g4 : (n : Int) ≤ (l.length : Int) := by omega
      have d : decide ((n : Int) < 0) = false := by simp
      have hb : bitsI (sumI (l.take n)) 16 = bitsL (sumI (l.take n)) 16 := by unfold bitsI; rw [if_pos (by omega)]; rfl
      have ht : (l.take n).length ≤ 1048576 := by rw [List.length_take]; omega
      have HN := Lib.hid hn
      cases h3 : ((l.drop n).take 16 == bitsL (sumI (l.take n)) 16)
      · have HF := Lib.hid (openR_sum l n hw hn h3)
        clear hn hm
        go_enter Try.func57, Try.ntmps57
        go_wp2_with fail
        refine (rwhole_any l _ (by omega)).mono ?_
        rintro e w1 ⟨rfl, rfl⟩
        rw [hw]
        clear hw
        go_wp2_with fail
        go_region_held3 (fun W => Below w.heap.size w W) (first | exact hB.drew | assumption)
          (first
          | (go_at_call 56; refine (rsum_any _ _ ?_).mono ?_; omega; rintro e wl ⟨rfl, rfl⟩)
          | (go_at_call 29; refine (rbits_any _ _ _).mono ?_; rintro e wl ⟨rfl, rfl⟩))
        go_wp2
        go_ret2
        exact ⟨congrArg Ending.returned HF.out.symm, by assumption⟩
      · have HF := Lib.hid (openR_ok l n hw hn h3)
        clear hn hm
        go_enter Try.func57, Try.ntmps57
        go_wp2_with fail
        refine (rwhole_any l _ (by omega)).mono ?_
        rintro e w1 ⟨rfl, rfl⟩
        rw [hw]
        clear hw
        go_wp2_with fail
        go_region_held3 (fun W => Below w.heap.size w W) (first | exact hB.drew | assumption)
          (first
          | (go_at_call 56; refine (rsum_any _ _ ?_).mono ?_; omega; rintro e wl ⟨rfl, rfl⟩)
          | (go_at_call 29; refine (rbits_any _ _ _).mono ?_; rintro e wl ⟨rfl, rfl⟩))
        go_wp2
        go_ret2
        exact ⟨congrArg Ending.returned HF.out.symm, by assumption⟩
  · have hw' : wholeB l = false := by simpa using hw
    have HF := Lib.hid (openR_tail l hw')
    go_enter Try.func57, Try.ntmps57
    go_wp2_with fail
    refine (rwhole_any l _ (by omega)).mono ?_
    rintro e w1 ⟨rfl, rfl⟩
    rw [hw']
    clear hw hw'
    go_wp2
    go_ret2
    exact ⟨congrArg Ending.returned HF.out.symm, hB⟩

end Go.Proofs.Ytafcjdcmbklfkaa

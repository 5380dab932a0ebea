/-
  Contracts of package crc: Sum of texts of bits, Wrap of them, Open of every text; nothing that was in memory is changed.
-/
import Derived.Test.YtbghpkdkfbpmeaaRef4
namespace Go.Proofs.Ytbghpkdkfbpmeaa
open Go.RowKit Plait
set_option maxRecDepth 100000
set_option linter.unusedVariables false

theorem reg_top (R : BitVec 16) : (R.toNat : Int) / 32768 = if R.msb then 1 else 0 := by
  have h := reg_out R
  have hl := R.isLt
  simp only [Nat.reducePow] at hl
  cases hm : R.msb
  · rw [hm] at h; simp at h ⊢; omega
  · rw [hm] at h; simp at h ⊢; omega

theorem reg_up16 (R : BitVec 16) : IntKind.u16.wrap ((R.toNat : Int) * 2) = ((R <<< 1).toNat : Int) := by
  have hd : ∀ x : Int, IntKind.u16.wrap x = x % 65536 := fun x => by simp [IntKind.wrap, IntKind.signed, IntKind.bits]
  rw [hd, BitVec.toNat_shiftLeft, Nat.shiftLeft_eq]
  simp only [Nat.reducePow]
  omega

theorem reg_laid16 (X : BitVec 16) : bits .xor .u16 (X.toNat : Int) 4129 = ((X ^^^ 0x1021#16).toNat : Int) := by
  have h := X.isLt
  have hdef : bits .xor .u16 (X.toNat : Int) 4129 = IntKind.u16.wrap ((BitVec.ofInt 16 (X.toNat : Int) ^^^ BitVec.ofInt 16 4129).toNat : Int) := rfl
  have hd : ∀ x : Int, IntKind.u16.wrap x = x % 65536 := fun x => by simp [IntKind.wrap, IntKind.signed, IntKind.bits]
  have e : (BitVec.ofInt 16 (X.toNat : Int)).toNat = X.toNat := by
    rw [BitVec.toNat_ofInt]
    simp only [Nat.reducePow] at *
    omega
  have hx : X.toNat ^^^ 4129 < 2 ^ 16 := Nat.xor_lt_two_pow h (by decide)
  rw [hdef, BitVec.toNat_xor, BitVec.toNat_xor, e, hd, show (BitVec.ofInt 16 4129).toNat = 4129 by decide, show (0x1021#16).toNat = 4129 by decide]
  simp only [Nat.reducePow] at hx
  omega

set_option maxHeartbeats 800000 in
theorem step_any (R : BitVec 16) (c : UInt8) (w : World) (hc : bitB c = true) :
    Calls Try.prog 89 #[.int .u16 R.toNat, .int .i32 c.toNat] w fun e w' => e = .returned (.int .u16 (stepB R (c == 49)).toNat) ∧ w = w' := by
  have hbit := (bit_toNat _).1 hc
  have hx := R.isLt
  have h1 := reg_top R
  have h2 := reg_up16 R
  have h3 := reg_laid16 (R <<< 1)
  have HN := Lib.hid (show (stepB R (c == 49)).toNat = if R.msb != (c == 49) then ((R <<< 1) ^^^ 0x1021#16).toNat else (R <<< 1).toNat by rw [step_if]; split <;> rfl)
  have h4 : (c.toNat : Int) = 48 + if (c == 49) then 1 else 0 := by
    rcases hbit with h | h
    · rw [show (c == 49) = false by rw [beq_eq_false_iff_ne]; intro e; rw [e] at h; exact absurd h (by decide), h]; rfl
    · rw [show (c == 49) = true by rw [beq_iff_eq]; exact UInt8.toNat_inj.1 h, h]; rfl
  rw [h4]
  generalize (stepB R (c == 49)).toNat = q at *
  generalize ((R <<< 1) ^^^ 0x1021#16).toNat = z at *
  generalize (R <<< 1).toNat = y at *
  generalize R.toNat = x at *
  generalize R.msb = o at *
  generalize (c == 49) = b at *
  have hx' : x ≤ 65535 := by simp only [Nat.reducePow] at hx; omega
  clear hx hbit h4 hc
  cases o <;> cases b
  all_goals
    simp only [Bool.false_eq_true, if_true, if_false, bne_self_eq_false, Bool.bne_true, Bool.bne_false, Bool.not_false] at HN h1 ⊢
    go_enter Try.func89, Try.ntmps89
    go_wp2
    go_ret
    exact ⟨ret_int (by rw [HN.out]), rfl⟩

/-- The loop of Sum. -/
def SumAt (l : List UInt8) (w : World) (r : Value) (w' : World) : Prop :=
  ∃ k : Nat, k ≤ l.length ∧ w' = w.iter ⟨l.toArray⟩ k ∧ r = .int .u16 ((sumB (l.take k)).toNat : Int)

set_option maxHeartbeats 800000 in
theorem csum_any (l : List UInt8) (w : World) (hs : l.length ≤ 1048576) (hall : allBits l) :
    Calls Try.prog 86 #[.string ⟨l.toArray⟩] w fun e w' => e = .returned (.int .i64 (sumI l)) ∧ Below w.heap.size w w' := by
  have HA := Lib.hid hall
  clear hall
  go_enter Try.func86, Try.ntmps86
  go_wp2
  go_loopw [3] (fun r w' => SumAt l w r w') (fun _ w' => l.length - w'.iterPos w.heap.size)
  case atStart => exact ⟨0, Nat.zero_le _, rfl, by simp [sumB, vals, feed]⟩
  case round =>
    obtain ⟨k, hk, rfl, rfl⟩ := hrel
    by_cases hlt : k < l.length
    · have hB := HA.out l[k] (List.getElem_mem hlt)
      have hbit := (bit_toNat _).1 hB
      have hnx := next_ascii l w k hlt (by omega)
      have HT := Lib.hid (sum_take l k hlt)
      clear hbit
      generalize sumB (l.take k) = R at *
      go_wp2_with fail
      refine (step_any R l[k] _ hB).mono ?_
      rintro e wl ⟨rfl, rfl⟩
      rw [← HT.out]
      go_wp2
      go_roundw
      case rel => exact ⟨k + 1, by omega, rfl, rfl⟩
      case measure => simp; omega
    · have hnx := next_end l w k hlt
      rw [show l.take k = l from List.take_of_length_le (by omega)]
      have HS := Lib.hid (show ((sumB l).toNat : Int) = sumI l from rfl)
      have hx := (sumB l).isLt
      generalize (sumB l).toNat = x at *
      have hx' : x ≤ 65535 := by simp only [Nat.reducePow] at hx; omega
      clear hx
      go_wp2
      go_ret
      exact ⟨ret_int HS.out, below_iter _ _ _⟩

theorem csumBits_any (l : List UInt8) (w : World) (hs : l.length ≤ 1048576) (hall : allBits l) :
    Calls Try.prog 72 #[.string ⟨l.toArray⟩] w fun e w' => e = .returned (.string ⟨(bitsL (sumI l) 16).toArray⟩) ∧ Below w.heap.size w w' := by
  have hb : bitsI (sumI l) 16 = bitsL (sumI l) 16 := by unfold bitsI; rw [if_pos (by omega)]; rfl
  have HB := Lib.hid hb
  clear hb
  go_enter Try.func72, Try.ntmps72
  go_wp2_with fail
  refine (csum_any l _ (by omega) hall).mono ?_
  rintro e w1 ⟨rfl, hb1⟩
  go_wp2_with fail
  refine (bits_any _ _ _).mono ?_
  rintro e w2 ⟨rfl, hb2⟩
  rw [HB.out]
  go_wp2
  go_ret
  exact ⟨rfl, hb1.trans (hb2.mono hb1.size)⟩

theorem cwrap_any (l : List UInt8) (w : World) (hs : l.length ≤ 1048000) (hall : allBits l) :
    Calls Try.prog 59 #[.string ⟨l.toArray⟩] w fun e w' => e = .returned (.string ⟨(wrapL l).toArray⟩) ∧ Below w.heap.size w w' := by
  have hlb : (bitsL (sumI l) 16).length = 16 := bitsL_length _ _
  have HW := Lib.hid (show l ++ bitsL (sumI l) 16 ++ [35] = wrapL l from rfl)
  have hlb2 : (bitsL (sumI l) 16).length ≤ 16 := by omega
  clear hlb
  go_enter Try.func59, Try.ntmps59
  go_wp2_with fail
  refine (csumBits_any l _ (by omega) hall).mono ?_
  rintro e w1 ⟨rfl, hb1⟩
  generalize bitsL (sumI l) 16 = B at *
  go_wp2
  go_ret
  exact ⟨ret_str (by rw [← HW.out]; simp), hb1⟩

/-- The last 17 bytes of a whole text are the sum and the tail just where the 16 ahead of the tail are the sum. -/
theorem open_cmp (l : List UInt8) (n : Nat) (hw : wholeB l = true) (hn : l.length = n + 17) (B : List UInt8) (hB : B.length = 16) :
    ((l.drop n).take 17 == B ++ [35]) = ((l.drop n).take 16 == B) := by
  have hlast : l[n + 16]'(by omega) = 35 := by
    unfold wholeB at hw
    simp only [Bool.and_eq_true, beq_iff_eq] at hw
    have h := hw.1
    rw [List.getLast?_eq_getElem?, hn, List.getElem?_eq_getElem (by omega)] at h
    simpa using h
  have e : (l.drop n).take 17 = (l.drop n).take 16 ++ [35] := by
    rw [List.take_succ_eq_append_getElem (i := 16) (by simp; omega), List.getElem_drop, hlast]
  rw [e, Bool.eq_iff_iff, beq_iff_eq, beq_iff_eq]
  exact ⟨fun h => List.append_cancel_right h, fun h => by rw [h]⟩

theorem add_run (x y : List UInt8) (hx : x.length ≤ 1000) (hy : y.length ≤ 1000) : ∀ W : World, (Op.stringOp .add ⟨x.toArray⟩ ⟨y.toArray⟩).run Try.prog W = .ok (.string ⟨(x ++ y).toArray⟩) W := fun W => by
  rw [run_string_add_sum W _ _ (by rw [size_mk, size_mk]; omega), app_mk]

set_option maxHeartbeats 1600000 in
theorem copen_any (l : List UInt8) (w : World) (hs : l.length ≤ 1048576) :
    Calls Try.prog 64 #[.string ⟨l.toArray⟩] w fun e w' => e = .returned (openR l) ∧ Below w.heap.size w w' := by
  have hB : Below w.heap.size w w := Below.refl _ _
  by_cases hw : wholeB l = true
  · by_cases h17 : l.length < 17
    · have HF := Lib.hid (openR_cut l hw h17)
      have d : decide ((l.length : Int) - 1 - 16 < 0) = true := by simp; omega
      go_enter Try.func64, Try.ntmps64
      go_wp2_with fail
      refine (whole_any l _ (by omega)).mono ?_
      rintro e wn ⟨rfl, hb⟩
      replace hB := hB.trans (hb.mono hB.size)
      clear hb
      rw [hw]
      clear hw
      go_wp2
      go_ret2
      exact ⟨congrArg Ending.returned HF.out.symm, hB⟩
    · obtain ⟨n, hn⟩ : ∃ n, l.length = n + 17 := ⟨l.length - 17, by omega⟩
      have r0 : (l.length : Int) - 1 - 16 = (n : Int) := by omega
      have r3 : l.length - n = 17 := by omega
      have b1 : n ≤ l.length := by omega
      have g1 : (0 : Int) ≤ (n : Int) := by omega
      have g4 : (n : Int) ≤ (l.length : Int) := by omega
      have d : decide ((n : Int) < 0) = false := by simp
      have ht : (l.take n).length ≤ 1048576 := by rw [List.length_take]; omega
      have HN := Lib.hid hn
      have HA := Lib.hid (whole_take l n hw (by omega))
      have hc := open_cmp l n hw hn (bitsL (sumI (l.take n)) 16) (bitsL_length _ _)
      have hlB : (bitsL (sumI (l.take n)) 16).length ≤ 16 := by rw [bitsL_length]; omega
      have HS := Lib.hid (openR_sum l n hw hn)
      have HO := Lib.hid (openR_ok l n hw hn)
      have HR := Lib.hid (csumBits_any (l.take n))
      generalize bitsL (sumI (l.take n)) 16 = B at *
      have ad := add_run B [35] (by omega) (by simp)
      cases h3 : ((l.drop n).take 16 == B)
      · have HF := Lib.hid (HS.out h3)
        rw [h3] at hc
        clear hn HS HO h3
        go_enter Try.func64, Try.ntmps64
        go_wp2_with fail
        refine (whole_any l _ (by omega)).mono ?_
        rintro e wn ⟨rfl, hb⟩
        replace hB := hB.trans (hb.mono hB.size)
        clear hb
        rw [hw]
        clear hw
        go_wp2_with fail
        go_region_held3 (fun W => Below w.heap.size w W) (first | exact hB.drew | assumption | exact Below.trans ‹_› (hbm.mono (Below.size ‹_›)))
          (first
          | (go_at_call 72; refine (HR.out _ ?_ HA.out).mono ?_; omega; rintro e wm ⟨rfl, hbm⟩))
        go_wp2
        go_ret2
        exact ⟨congrArg Ending.returned HF.out.symm, by assumption⟩
      · have HF := Lib.hid (HO.out h3)
        rw [h3] at hc
        clear hn HS HO h3
        go_enter Try.func64, Try.ntmps64
        go_wp2_with fail
        refine (whole_any l _ (by omega)).mono ?_
        rintro e wn ⟨rfl, hb⟩
        replace hB := hB.trans (hb.mono hB.size)
        clear hb
        rw [hw]
        clear hw
        go_wp2_with fail
        go_region_held3 (fun W => Below w.heap.size w W) (first | exact hB.drew | assumption | exact Below.trans ‹_› (hbm.mono (Below.size ‹_›)))
          (first
          | (go_at_call 72; refine (HR.out _ ?_ HA.out).mono ?_; omega; rintro e wm ⟨rfl, hbm⟩))
        go_wp2_with fail
        refine (clone_any _ _ (by rw [size_mk]; omega)).mono ?_
        rintro e wq ⟨rfl, hbq⟩
        go_wp2
        go_ret2
        exact ⟨congrArg Ending.returned HF.out.symm, Below.trans ‹_› (hbq.mono (Below.size ‹_›))⟩
  · have hw' : wholeB l = false := by simpa using hw
    have HF := Lib.hid (openR_tail l hw')
    go_enter Try.func64, Try.ntmps64
    go_wp2_with fail
    refine (whole_any l _ (by omega)).mono ?_
    rintro e wn ⟨rfl, hb⟩
    replace hB := hB.trans (hb.mono hB.size)
    clear hb
    rw [hw']
    clear hw hw'
    go_wp2
    go_ret2
    exact ⟨congrArg Ending.returned HF.out.symm, hB⟩

end Go.Proofs.Ytbghpkdkfbpmeaa

/-
  The walk of SymClean: it answers true, for all rows of numbers and texts.
-/
import Derived.Test.YtopjhhpbjpfbfaaLaw2
import Derived.Test.YtopjhhpbjpfbfaaMath4
namespace Go.Proofs.Ytopjhhpbjpfbfaa
open Go.RowKit Plait
set_option linter.unusedVariables false

set_option maxHeartbeats 4000000 in
theorem symClean_walk (a0 : Option Addr) (z0 : List Int) (cap0 : Nat) (R : List UInt8) (w : World) (r0 : Row w a0 z0) (hR : R.length ≤ 9223372036854775807) :
    Calls Try.prog 7 #[.slice a0 z0.length cap0, .string ⟨R.toArray⟩] w fun e w' => e = .returned (.bool true) ∧ Below w.heap.size w w' := by
  have hB : Below w.heap.size w w := Below.refl _ _
  have l0 := textL_length z0
  by_cases h100 : 100 < R.length
  · have d : decide ((100 : Int) < (R.length : Int)) = true := by simp; omega
    go_enter Try.func7, Try.ntmps7
    go_wp2_with fail
    refine (known_any _).mono ?_
    rintro e wn ⟨rfl, hb⟩
    go_wp2
    go_ret
    exact ⟨rfl, hb⟩
  have d : decide ((100 : Int) < (R.length : Int)) = false := by simp; omega
  go_enter Try.func7, Try.ntmps7
  go_wp2_with fail
  refine (known_any _).mono ?_
  rintro e wn ⟨rfl, hb⟩
  replace hB := hB.trans (hb.mono hB.size)
  clear hb
  go_wp2_with fail
  refine (text_any a0 z0 cap0 _ (r0.later hB)).mono ?_
  rintro e wn ⟨rfl, hb⟩
  replace hB := hB.trans (hb.mono hB.size)
  clear hb
  go_wp2_with fail
  refine (clean_any _ _ (by simp; omega)).mono ?_
  rintro e wn ⟨rfl, hb⟩
  replace hB := hB.trans (hb.mono hB.size)
  clear hb
  have hget := clean_get (textL z0 ++ R)
  have hid := clean_idem (textL z0 ++ R)
  have hwh := whole_clean (textL z0 ++ R)
  have hlen : (clean (textL z0 ++ R)).length ≤ 180 := by rw [clean_length]; have := slen_le (textL z0 ++ R); simp at this; omega
  have hlen2 : (clean (textL z0 ++ [46])).length ≤ 81 := by rw [clean_length]; have := slen_le (textL z0 ++ [46]); simp at this; omega
  have HG := Lib.hid hget
  have HI := Lib.hid hid
  have HW := Lib.hid hwh
  clear hget hid hwh
  generalize clean (textL z0 ++ R) = S at *
  go_wp2
  go_loop [6] (fun i => ∃ k : Nat, k ≤ S.length ∧ i = .int .i64 k) (fun i => S.length - (intOf i).toNat)
  case atStart => exact ⟨0, Nat.zero_le _, rfl⟩
  case round =>
    obtain ⟨k, hk, rfl⟩ := hrel
    by_cases hlt : k < S.length
    · have hg := HG.out k hlt
      have dl : decide (k < S.length) = true := by simpa using hlt
      rcases hg with hg | ⟨hg1, hg2⟩
      · have hg' := (bit_toNat _).1 hg
        clear hg
        rcases hg' with hg | hg
        · have e1 : ((S[k].toNat : Int) != 48) = false := by rw [hg]; decide
          clear hg
          go_wp2
          go_round
          case rel => exact ⟨k + 1, by omega, by go_num⟩
          case measure => simp [intOf]; omega
        · have e1 : ((S[k].toNat : Int) != 48) = true := by rw [hg]; decide
          have e2 : ((S[k].toNat : Int) != 49) = false := by rw [hg]; decide
          clear hg
          go_wp2
          go_round
          case rel => exact ⟨k + 1, by omega, by go_num⟩
          case measure => simp [intOf]; omega
      · have e1 : ((S[k].toNat : Int) != 48) = true := by rw [hg1]; decide
        have e2 : ((S[k].toNat : Int) != 49) = true := by rw [hg1]; decide
        have e3 : ((S[k].toNat : Int) != 35) = false := by rw [hg1]; decide
        have e4 : decide ((k : Int) + 1 < (S.length : Int)) = false := by simp; omega
        clear hg1 hg2
        go_wp2
        go_round
        case rel => exact ⟨k + 1, by omega, by go_num⟩
        case measure => simp [intOf]; omega
    · go_wp2_with fail
      refine (text_any a0 z0 cap0 _ (r0.later hB)).mono ?_
      rintro e wn ⟨rfl, hb⟩
      replace hB := hB.trans (hb.mono hB.size)
      clear hb
      go_wp2_with fail
      refine (clean_any _ _ (by simp; omega)).mono ?_
      rintro e wn ⟨rfl, hb⟩
      replace hB := hB.trans (hb.mono hB.size)
      clear hb
      generalize clean (textL z0 ++ [46]) = E at *
      have ht := clean_tail E R
      have hi := HI.out
      have HT := Lib.hid ht
      have lE : (clean (E ++ [35])).length ≤ 82 := by rw [clean_length]; have := slen_le (E ++ [35]); simp at this; omega
      clear ht
      go_wp2_with fail
      refine (clean_any S _ (by omega)).mono ?_
      rintro e wn ⟨rfl, hb⟩
      replace hB := hB.trans (hb.mono hB.size)
      clear hb
      rw [hi]
      go_wp2_with fail
      refine (clean_any _ _ (by simp; omega)).mono ?_
      rintro e wn ⟨rfl, hb⟩
      replace hB := hB.trans (hb.mono hB.size)
      clear hb
      go_wp2_with fail
      refine (rclean_any _ _ (by simp; omega)).mono ?_
      rintro e wl ⟨rfl, rfl⟩
      rw [HT.out]
      go_wp2_with fail
      refine (whole_any S _ (by omega)).mono ?_
      rintro e wn ⟨rfl, hb⟩
      replace hB := hB.trans (hb.mono hB.size)
      clear hb
      by_cases h0 : S = []
      · have hv : wholeB S = false := by rw [h0]; rfl
        have d0 : S.isEmpty = true := by rw [h0]; rfl
        rw [hv]
        clear hv h0 hi
        go_wp2
        go_ret
        exact ⟨rfl, hB⟩
      have hpos : 0 < S.length := List.length_pos_iff.2 h0
      have d0 : S.isEmpty = false := by simpa using h0
      have hv := HW.out
      rw [last_get S hpos] at hv
      by_cases h35 : S[S.length - 1] = 35
      · rw [show wholeB S = true by rw [hv, h35]; rfl]
        have e1 : ((S[S.length - 1].toNat : Int) == 35) = true := by rw [h35]; rfl
        clear hv h0 hi h35
        go_wp2
        go_ret
        exact ⟨rfl, hB⟩
      · rw [show wholeB S = false by rw [hv]; simpa using h35]
        have e1 : ((S[S.length - 1].toNat : Int) == 35) = false := byte_ne _ 35 (by decide) h35
        clear hv h0 hi h35
        go_wp2
        go_ret
        exact ⟨rfl, hB⟩

end Go.Proofs.Ytopjhhpbjpfbfaa

/-
  The walk of SymJoin: it answers true, for all rows of numbers and places.
-/
import Derived.Test.YtopjhhpbjpfbfaaLaw2
import Derived.Test.YtopjhhpbjpfbfaaMath3
import Derived.Test.YtopjhhpbjpfbfaaMath4
import Derived.Deep.RegionHeld3
namespace Go.Proofs.Ytopjhhpbjpfbfaa
open Go.RowKit Plait
set_option linter.unusedVariables false

theorem front_take_any (S : List UInt8) (k : Nat) : frontB (S.take k) S = true := by
  unfold frontB
  rw [List.isPrefixOf_iff_prefix]
  exact List.take_prefix k S

theorem front_append (A B : List UInt8) : frontB A (A ++ B) = true := by
  unfold frontB
  rw [List.isPrefixOf_iff_prefix]
  exact List.prefix_append A B

theorem common_take (S : List UInt8) (k : Nat) : common (S.take k) S = S.take k := by
  have h := common_prefix (S.take k) [] (S.drop k)
  rw [List.append_nil, List.take_append_drop, common_nil_left, List.append_nil] at h
  exact h

set_option maxHeartbeats 800000 in
theorem symJoin_walk (a0 : Option Addr) (z0 : List Int) (cap0 : Nat) (a1 : Option Addr) (z1 : List Int) (cap1 : Nat) (n m : Int) (w : World) (r0 : Row w a0 z0) (r1 : Row w a1 z1) (hn1 : -9223372036854775808 ≤ n) (hn2 : n ≤ 9223372036854775807) (hm1 : -9223372036854775808 ≤ m) (hm2 : m ≤ 9223372036854775807) :
    Calls Try.prog 10 #[.slice a0 z0.length cap0, .slice a1 z1.length cap1, .int .i64 n, .int .i64 m] w fun e w' => e = .returned (.bool true) ∧ Below w.heap.size w w' := by
  have hB : Below w.heap.size w w := Below.refl _ _
  have l0 := textL_length z0
  have l1 := textL_length z1
  go_enter Try.func10, Try.ntmps10
  go_wp2_with fail
  refine (known_any _).mono ?_
  rintro e wn ⟨rfl, hb⟩
  replace hB := hB.trans (hb.mono hB.size)
  clear hb
  go_wp2_with fail
  refine (text_any a0 z0 cap0 _ (r0.later hB)).mono ?_
  rintro e wn ⟨rfl, hb⟩
  replace hB := hB.trans (hb.mono hB.size)
  clear hb
  go_wp2_with fail
  refine (clean_any _ _ (by omega)).mono ?_
  rintro e wn ⟨rfl, hb⟩
  replace hB := hB.trans (hb.mono hB.size)
  clear hb
  go_wp2_with fail
  refine (text_any a1 z1 cap1 _ (r1.later hB)).mono ?_
  rintro e wn ⟨rfl, hb⟩
  replace hB := hB.trans (hb.mono hB.size)
  clear hb r0 r1
  have HY := Lib.hid (clean_append (textL z0) (textL z1))
  have HW := Lib.hid (clean_whole_append (textL z0) (textL z1))
  have lA : (clean (textL z0)).length ≤ 80 := by rw [clean_length]; have := slen_le (textL z0); omega
  generalize clean (textL z0) = A at *
  generalize textL z1 = M at *
  go_wp2_with fail
  refine (clean_any _ _ (by simp; omega)).mono ?_
  rintro e wn ⟨rfl, hb⟩
  replace hB := hB.trans (hb.mono hB.size)
  clear hb
  have lS : (clean (A ++ M)).length ≤ 160 := by rw [clean_length]; have := slen_le (A ++ M); simp at this; omega
  by_cases hw : wholeB A = true
  · rw [HW.out hw]
    go_wp2_with fail
    refine (whole_any _ _ (by omega)).mono ?_
    rintro e wn ⟨rfl, hb⟩
    replace hB := hB.trans (hb.mono hB.size)
    rw [hw]
    clear hb hw
    go_wp2
    go_ret
    exact ⟨rfl, hB⟩
  have hw' : wholeB A = false := by simpa using hw
  have HE := Lib.hid (HY.out hw')
  clear hw HY HW
  generalize clean (A ++ M) = S at *
  go_wp2_with fail
  refine (whole_any _ _ (by omega)).mono ?_
  rintro e wn ⟨rfl, hb⟩
  replace hB := hB.trans (hb.mono hB.size)
  rw [hw']
  clear hb hw'
  have hm0 := Int.emod_nonneg n (show (S.length : Int) + 1 ≠ 0 by omega)
  have hm1' := Int.emod_lt_of_pos n (show (0 : Int) < (S.length : Int) + 1 by omega)
  obtain ⟨k, hk⟩ : ∃ k : Nat, n % ((S.length : Int) + 1) = k := ⟨(n % ((S.length : Int) + 1)).toNat, by omega⟩
  have hkl : k ≤ S.length := by omega
  have HK := Lib.hid hk
  have hj0 := Int.emod_nonneg m (show (k : Int) + 1 ≠ 0 by omega)
  have hj1 := Int.emod_lt_of_pos m (show (0 : Int) < (k : Int) + 1 by omega)
  obtain ⟨j, hj⟩ : ∃ j : Nat, m % ((k : Int) + 1) = j := ⟨(m % ((k : Int) + 1)).toNat, by omega⟩
  have hjk : j ≤ k := by omega
  have HJ := Lib.hid hj
  clear hk hm0 hm1' hj hj0 hj1 hn1 hn2 hm1 hm2
  go_wp2_with fail
  refine (within_any _ _ _ (by omega) (by omega)).mono ?_
  rintro e wl ⟨rfl, rfl⟩
  rw [HK.out]
  go_wp2_with fail
  refine (within_any _ _ _ (by omega) (by omega)).mono ?_
  rintro e wl ⟨rfl, rfl⟩
  rw [HJ.out]
  have f1 : A ++ clean M = S := HE.out.symm
  have f2 : frontB (S.take k) S = true := front_take_any S k
  have f3 : frontB (S.take j) (S.take k) = true := by
    have := front_take_any (S.take k) j
    rw [List.take_take, Nat.min_eq_left hjk] at this
    exact this
  have f4 : common (S.take j) S = S.take j := common_take S j
  have f5 : frontB A S = true := by rw [HE.out]; exact front_append A _
  have lcM : (clean M).length ≤ 80 := by rw [clean_length]; have := slen_le M; omega
  have ltk : (S.take k).length ≤ 160 := by rw [List.length_take]; omega
  have ltj : (S.take j).length ≤ 160 := by rw [List.length_take]; omega
  have g1 : (0 : Int) ≤ (k : Int) := by omega
  have g2 : (k : Int) ≤ (S.length : Int) := by omega
  have g3 : (0 : Int) ≤ (j : Int) := by omega
  have g4 : (j : Int) ≤ (S.length : Int) := by omega
  have hadd : ∀ W : World, (Op.stringOp .add ⟨A.toArray⟩ ⟨(clean M).toArray⟩).run Try.prog W = .ok (.string ⟨S.toArray⟩) W := fun W => by
    rw [run_string_add_sum W _ _ (by rw [size_mk, size_mk]; omega), app_mk, f1]
  clear HK HJ HE
  go_wp2_with fail
  go_region_held3 (fun W => Below w.heap.size w W)
    (first | exact Below.drew hB | assumption | exact Below.trans ‹_› (hbm.mono (Below.size ‹_›)))
    (first
    | (go_at_call 14; refine (rclean_any _ _ ?_).mono ?_; omega; rintro e wl ⟨rfl, rfl⟩)
    | (go_at_call 22; refine (front_any _ _ _).mono ?_; rintro e wl ⟨rfl, rfl⟩)
    | (go_at_call 20; refine (common_any _ _ _ ?_ ?_).mono ?_; omega; omega; rintro e wm ⟨rfl, hbm⟩))
  go_wp2
  go_ret
  refine ⟨rfl, ?_⟩
  assumption

end Go.Proofs.Ytopjhhpbjpfbfaa

/-
  The walk of SymCommon: it answers true, for all rows of numbers.
-/
import Derived.Test.YtopjhhpbjpfbfaaLaw2
import Derived.Test.YtopjhhpbjpfbfaaMath3
namespace Go.Proofs.Ytopjhhpbjpfbfaa
open Go.RowKit Plait
set_option linter.unusedVariables false

set_option maxHeartbeats 4000000 in
theorem symCommon_walk (a0 : Option Addr) (z0 : List Int) (cap0 : Nat) (a1 : Option Addr) (z1 : List Int) (cap1 : Nat) (a2 : Option Addr) (z2 : List Int) (cap2 : Nat) (w : World) (r0 : Row w a0 z0) (r1 : Row w a1 z1) (r2 : Row w a2 z2) :
    Calls Try.prog 5 #[.slice a0 z0.length cap0, .slice a1 z1.length cap1, .slice a2 z2.length cap2] w fun e w' => e = .returned (.bool true) ∧ Below w.heap.size w w' := by
  have hB : Below w.heap.size w w := Below.refl _ _
  have l0 := textL_length z0
  have l1 := textL_length z1
  have l2 := textL_length z2
  go_enter Try.func5, Try.ntmps5
  go_wp2_with fail
  refine (known_any _).mono ?_
  rintro e wn ⟨rfl, hb⟩
  replace hB := hB.trans (hb.mono hB.size)
  clear hb
  go_wp2_with fail
  refine (text_any a2 z2 cap2 _ (r2.later hB)).mono ?_
  rintro e wn ⟨rfl, hb⟩
  replace hB := hB.trans (hb.mono hB.size)
  clear hb
  go_wp2_with fail
  refine (text_any a0 z0 cap0 _ (r0.later hB)).mono ?_
  rintro e wn ⟨rfl, hb⟩
  replace hB := hB.trans (hb.mono hB.size)
  clear hb
  go_wp2_with fail
  refine (text_any a1 z1 cap1 _ (r1.later hB)).mono ?_
  rintro e wn ⟨rfl, hb⟩
  replace hB := hB.trans (hb.mono hB.size)
  clear hb
  go_wp2_with fail
  refine (text_any a0 z0 cap0 _ (r0.later hB)).mono ?_
  rintro e wn ⟨rfl, hb⟩
  replace hB := hB.trans (hb.mono hB.size)
  clear hb r0 r1 r2
  generalize textL z0 = N at *
  generalize textL z1 = M at *
  generalize textL z2 = K at *
  have lA : (K ++ N).length ≤ 160 := by simp; omega
  have lB : (K ++ M).length ≤ 160 := by simp; omega
  have hk : K.length ≤ (common (K ++ N) (K ++ M)).length := by rw [common_prefix]; simp
  go_wp2_with fail
  generalize K ++ N = A at *
  generalize K ++ M = B at *
  have lX : (common A B).length ≤ 160 := by rw [common_length]; have := comm_le_left A B; omega
  have lY : (common B N).length ≤ 80 := by rw [common_length]; have := comm_le_right B N; omega
  have f1 := common_front A B
  have f2 := common_front_right A B
  have f3 : common B A = common A B := common_symm B A
  have f4 : decide ((common A B).length < K.length) = false := by simp; omega
  have f5 : common A (common B N) = common (common A B) N := (common_assoc A B N).symm
  have f6 := common_self A
  have HL := Lib.hid (common_length A B)
  have HN := Lib.hid (comm_next A B)
  have HLe := Lib.hid (comm_le_left A B)
  have HRe := Lib.hid (comm_le_right A B)
  generalize hX : common A B = X at *
  go_wp2_with (first
    | (go_at_call 20; refine (common_any _ _ _ (by omega) (by omega)).mono ?_; rintro e wn ⟨rfl, hb⟩; replace hB := hB.trans (hb.mono hB.size); clear hb)
    | (go_at_call 22; refine (front_any _ _ _).mono ?_; rintro e wn ⟨rfl, rfl⟩))
  clear f1 f2 f3 f4 f5 f6
  by_cases e1 : X.length = A.length
  · have d1 : (X.length == A.length) = true := by simpa using e1
    have d1' : ((X.length : Int) == (A.length : Int)) = true := by simp; omega
    clear e1
    go_quiet (fail)
    go_wp2
    go_ret
    exact ⟨rfl, below_drewN hB _⟩
  by_cases e2 : X.length = B.length
  · have d1 : (X.length == A.length) = false := by simpa using e1
    have d1' : ((X.length : Int) == (A.length : Int)) = false := by simp; omega
    have d2 : (X.length == B.length) = true := by simpa using e2
    have d2' : ((X.length : Int) == (B.length : Int)) = true := by simp; omega
    clear e1 e2
    go_quiet (fail)
    go_wp2
    go_ret
    exact ⟨rfl, below_drewN hB _⟩
  have hl := HL.out
  have hle := HLe.out
  have hre := HRe.out
  have hn := HN.out (by omega) (by omega)
  have b1 : X.length < A.length := by omega
  have b2 : X.length < B.length := by omega
  have hn' : A[X.length] ≠ B[X.length] := by
    simp only [hl]; exact hn
  have d1 : (X.length == A.length) = false := by simpa using e1
  have d1' : ((X.length : Int) == (A.length : Int)) = false := by simp; omega
  have d2 : (X.length == B.length) = false := by simpa using e2
  have d2' : ((X.length : Int) == (B.length : Int)) = false := by simp; omega
  have d3 : ((A[X.length].toNat : Int) != (B[X.length].toNat : Int)) = true := by
    rw [bne_iff_ne]
    intro e
    exact hn' (UInt8.toNat_inj.1 (by omega))
  clear hn hn' hl hle hre HN HL e1 e2
  go_quiet (fail)
  go_wp2
  go_ret
  exact ⟨rfl, below_drewN hB _⟩

end Go.Proofs.Ytopjhhpbjpfbfaa

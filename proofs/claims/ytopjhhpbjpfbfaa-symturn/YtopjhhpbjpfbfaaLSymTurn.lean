/-
  The walk of SymTurn: it answers true, for all rows of numbers and places.
-/
import Derived.Test.YtopjhhpbjpfbfaaLaw2
namespace Go.Proofs.Ytopjhhpbjpfbfaa
open Go.RowKit Plait
set_option linter.unusedVariables false

theorem turn_nil (i : Int) : turn [] i = [] := by unfold turn; rw [if_neg (by simp)]

theorem turn_twice (S : List UInt8) (k : Nat) (hk : k < S.length) (h : other (other S[k]) = S[k]) : turn (turn S k) k = S := by
  rw [turn_in _ k (by rw [turn_in S k hk]; simpa using hk)]
  simp only [turn_in S k hk, List.getElem_set_self, List.set_set, h, List.set_getElem_self]

set_option maxHeartbeats 4000000 in
theorem symTurn_walk (a0 : Option Addr) (z0 : List Int) (cap0 : Nat) (i : Int) (w : World) (r0 : Row w a0 z0) (hi1 : -9223372036854775808 ≤ i) (hi2 : i ≤ 9223372036854775807) :
    Calls Try.prog 6 #[.slice a0 z0.length cap0, .int .i64 i] w fun e w' => e = .returned (.bool true) ∧ Below w.heap.size w w' := by
  have hB : Below w.heap.size w w := Below.refl _ _
  have l0 := textL_length z0
  go_enter Try.func6, Try.ntmps6
  go_wp2_with fail
  refine (known_any _).mono ?_
  rintro e wn ⟨rfl, hb⟩
  replace hB := hB.trans (hb.mono hB.size)
  clear hb
  go_wp2_with fail
  refine (text_any a0 z0 cap0 _ (r0.later hB)).mono ?_
  rintro e wn ⟨rfl, hb⟩
  replace hB := hB.trans (hb.mono hB.size)
  clear hb r0
  generalize textL z0 = S at *
  by_cases h0 : S = []
  · subst h0
    go_wp2_with fail
    refine (turn_any [] _ _ (by simp)).mono ?_
    rintro e wn ⟨rfl, hb⟩
    replace hB := hB.trans (hb.mono hB.size)
    rw [turn_nil]
    go_wp2
    go_ret
    exact ⟨rfl, hB⟩
  have hpos : 0 < S.length := List.length_pos_iff.2 h0
  have d0 : S.isEmpty = false := by simpa using h0
  have hm0 := Int.emod_nonneg i (show (S.length : Int) ≠ 0 by omega)
  have hm1 := Int.emod_lt_of_pos i (show (0 : Int) < (S.length : Int) by omega)
  obtain ⟨k, hk⟩ : ∃ k : Nat, i % (S.length : Int) = k := ⟨(i % (S.length : Int)).toNat, by omega⟩
  have hkl : k < S.length := by omega
  have HK := Lib.hid hk
  clear hk hm0 hm1 h0
  go_wp2_with fail
  refine (within_any _ _ _ (by omega) (by omega)).mono ?_
  rintro e wl ⟨rfl, rfl⟩
  rw [HK.out]
  go_wp2_with fail
  refine (turn_any S _ _ (by omega)).mono ?_
  rintro e wn ⟨rfl, hb⟩
  replace hB := hB.trans (hb.mono hB.size)
  clear hb
  have hT := turn_in S k hkl
  have lT : (turn S k).length = S.length := by rw [hT]; simp
  have hT1 : (turn S k).take k = S.take k := by rw [hT, List.take_set_of_le (Nat.le_refl _)]
  have hT2 : (turn S k).drop (k + 1) = S.drop (k + 1) := by rw [hT, List.drop_set_of_lt (by omega)]
  have hTk : (turn S k)[k]'(by rw [lT]; exact hkl) = other S[k] := by simp [hT]
  have HTT := Lib.hid (turn_twice S k hkl)
  have HS := Lib.hid (show other S[k] = S[k] → turn S k = S by intro e; rw [hT, e, List.set_getElem_self])
  generalize turn S k = T at *
  have hTl : k < T.length := by omega
  clear hT
  by_cases h1 : S[k] = 48
  · have e1 : S[k] = 48 := h1
    have e2 : T[k] = 49 := by rw [hTk, h1]; rfl
    have e3 := HTT.out (by rw [h1]; rfl)
    clear hTk h1
    go_wp2
    go_quiet (fail)
    go_wp2_with (go_at_call 17; refine (turn_any T _ _ (by omega)).mono ?_; rintro e wn ⟨rfl, hb⟩)
    go_ret
    exact ⟨rfl, (below_drewN hB _).trans (hb.mono (below_drewN hB _).size)⟩
  by_cases h2 : S[k] = 49
  · have e1 : S[k] = 49 := h2
    have e2 : T[k] = 48 := by rw [hTk, h2]; rfl
    have e3 := HTT.out (by rw [h2]; rfl)
    clear hTk h1 h2
    go_wp2
    go_quiet (fail)
    go_wp2_with (go_at_call 17; refine (turn_any T _ _ (by omega)).mono ?_; rintro e wn ⟨rfl, hb⟩)
    go_ret
    exact ⟨rfl, (below_drewN hB _).trans (hb.mono (below_drewN hB _).size)⟩
  by_cases h3 : S[k] = 35
  · have e1 : S[k] = 35 := h3
    have e2 : T[k] = 48 := by rw [hTk, h3]; rfl
    clear hTk h1 h2 h3
    go_wp2
    go_quiet (fail)
    go_wp2
    go_ret
    exact ⟨rfl, below_drewN hB _⟩
  have e1 : ((S[k].toNat : Int) == 48) = false := byte_ne _ 48 (by decide) h1
  have e2 : ((S[k].toNat : Int) == 49) = false := byte_ne _ 49 (by decide) h2
  have e3 : ((S[k].toNat : Int) == 35) = false := byte_ne _ 35 (by decide) h3
  obtain rfl : T = S := HS.out (by simp [other, h1, h2, h3])
  clear hTk h1 h2 h3 hT1 hT2 lT
  go_wp2
  go_quiet (fail)
  go_wp2
  go_ret
  exact ⟨rfl, below_drewN hB _⟩

end Go.Proofs.Ytopjhhpbjpfbfaa

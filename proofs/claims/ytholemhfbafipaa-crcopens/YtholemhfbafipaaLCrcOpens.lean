/-
  The walk of CrcOpens: it answers true, for all rows of numbers, places and texts.
-/
import Derived.Test.YtholemhfbafipaaLCrcOne
namespace Go.Proofs.Ytholemhfbafipaa
open Go.RowKit Plait
set_option linter.unusedVariables false

/-- A loop over a row of texts: the row stays. -/
def RowUpTo (n : Nat) (w1 : World) (i : Value) (w' : World) : Prop := ∃ k : Nat, k ≤ n ∧ i = .int .i64 k ∧ Below w1.heap.size w1 w'

theorem eight_cells {wn w1 : World} {xs : List Value} {t : TypeId} (hW : wn.alloc (.cells xs.toArray t) = w1) (k : Nat) (hx : k < xs.length) : w1.cell? ⟨wn.heap.size, k, none⟩ = some xs[k] := by
  rw [← hW, World.cell?_alloc_mark]
  simp [hx]

theorem openR_parts (l : List UInt8) : ∃ (x : List UInt8) (e : Int), openR l = .tuple #[.string ⟨x.toArray⟩, .int .i64 e] ∧ 0 ≤ e ∧ e ≤ 5 := by
  refine ⟨(openP l).1, (openP l).2, rfl, ?_⟩
  unfold openP
  split
  · exact ⟨by decide, by decide⟩
  · split
    · exact ⟨by decide, by decide⟩
    · split <;> exact ⟨by simp, by simp⟩

set_option maxHeartbeats 4000000 in
set_option maxRecDepth 100000 in
theorem crcOpens_walk (a0 : Option Addr) (z0 : List Int) (cap0 : Nat) (i j c : Int) (a4 : Option Addr) (z4 : List Int) (cap4 : Nat) (R : List UInt8) (w : World) (r0 : Row w a0 z0) (hi1 : -9223372036854775808 ≤ i) (hi2 : i ≤ 9223372036854775807) (hj1 : -9223372036854775808 ≤ j) (hj2 : j ≤ 9223372036854775807) (hc1 : -9223372036854775808 ≤ c) (hc2 : c ≤ 9223372036854775807) (r4 : Row w a4 z4) (hR : R.length ≤ 9223372036854775807) :
    Calls Try.prog 4 #[.slice a0 z0.length cap0, .int .i64 i, .int .i64 j, .int .i64 c, .slice a4 z4.length cap4, .string ⟨R.toArray⟩] w fun e w' => e = .returned (.bool true) ∧ Below w.heap.size w w' := by
  have hB : Below w.heap.size w w := Below.refl _ _
  have l0 := bitsT_length z0
  have l4 := textL_length z4
  by_cases h200 : 200 < R.length
  · have d : decide ((200 : Int) < (R.length : Int)) = true := by simp; omega
    go_enter Try.func4, Try.ntmps4
    go_wp2_with fail
    refine (known2_any _).mono ?_
    rintro e wn ⟨rfl, hb⟩
    replace hB := hB.trans (hb.mono hB.size)
    clear hb
    go_wp2
    go_ret
    exact ⟨rfl, hB⟩
  have d : decide ((200 : Int) < (R.length : Int)) = false := by simp; omega
  go_enter Try.func4, Try.ntmps4
  go_wp2_with fail
  refine (known2_any _).mono ?_
  rintro e wn ⟨rfl, hb⟩
  replace hB := hB.trans (hb.mono hB.size)
  clear hb
  go_wp2_with fail
  refine (bitsT_any a0 z0 cap0 _ (r0.later hB)).mono ?_
  rintro e wn ⟨rfl, hb⟩
  replace hB := hB.trans (hb.mono hB.size)
  clear hb
  clear r0
  generalize bitsT z0 = b at *
  go_wp2_with fail
  refine (rwrap_any b _ (by omega)).mono ?_
  rintro e wl ⟨rfl, rfl⟩
  have hSl : (wrapL b).length ≤ 257 := by rw [wrapL_length]; omega
  have hSl0 : 0 < (wrapL b).length := by rw [wrapL_length]; omega
  generalize wrapL b = S at *
  have hm0 := Int.emod_nonneg c (show (S.length : Int) + 1 ≠ 0 by omega)
  have hm1 := Int.emod_lt_of_pos c (show (0 : Int) < (S.length : Int) + 1 by omega)
  obtain ⟨k, hk⟩ : ∃ k : Nat, c % ((S.length : Int) + 1) = k := ⟨(c % ((S.length : Int) + 1)).toNat, by omega⟩
  have hkl : k ≤ S.length := by omega
  have HK := Lib.hid hk
  clear hk hm0 hm1
  go_wp2_with fail
  refine (within2_any _ _ _ (by omega) (by omega)).mono ?_
  rintro e wl ⟨rfl, rfl⟩
  rw [HK.out]
  have g0 : (0 : Int) ≤ (k : Int) := by omega
  have g1 : (k : Int) ≤ (S.length : Int) := by omega
  have lt1 : (S.take k).length ≤ 257 := by rw [List.length_take]; omega
  have lt2 : ((S.drop k).take (S.length - k)).length ≤ 257 := by rw [List.length_take, List.length_drop]; omega
  have lt3 : (S.take k ++ textL z4).length ≤ 340 := by rw [List.length_append]; omega
  have ad1 := add_run (S.take k) (textL z4) (by omega) (by omega)
  have ad2 := add_run (S.take k ++ textL z4) ((S.drop k).take (S.length - k)) (by omega) (by omega)
  have ad3 := add_run S (textL z4) (by omega) (by omega)
  have ad4 := add_run (textL z4) [35] (by omega) (by simp)
  have hlt1 : ∀ q : Int, (turn S q).length ≤ 257 := fun q => by rw [turn_length]; exact hSl
  have hlt2 : ∀ q p : Int, (turn (turn S q) p).length ≤ 257 := fun q p => by rw [turn_length, turn_length]; exact hSl
  have HT1 := Lib.hid hlt1
  have HT2 := Lib.hid hlt2
  have q1 := hlt1 (i % (S.length : Int))
  clear hlt1 hlt2
  go_wp2_with fail
  go_region_held3 (fun W => Below w.heap.size w W)
    (first | exact hB.drew | assumption | exact Below.trans ‹_› (hbm.mono (Below.size ‹_›)) | exact Below.alloc ‹_› (Below.size ‹_›) _)
    (first
    | (go_at_call 18; refine (within2_any _ _ _ ?_ ?_).mono ?_; omega; omega; rintro e wl ⟨rfl, rfl⟩)
    | (go_at_call 19; refine (rturn_any _ _ _ ?_).mono ?_; omega; rintro e wm ⟨rfl, hbm⟩)
    | (go_at_call 20; refine (text_any a4 z4 cap4 _ ?_).mono ?_; exact Row.later r4 (by assumption); rintro e wm ⟨rfl, hbm⟩))
  clear ad1 ad2 ad3 ad4
  go_wp2_with fail
  generalize hW : World.alloc wm _ = w1
  have hB1 : Below w.heap.size w w1 := by
    rw [← hW]
    assumption
  have hlt : wm.heap.size < w1.heap.size := by rw [← hW]; simp
  have hc : ∀ n, n < 8 → ∃ L : List UInt8, L.length ≤ 1000 ∧ w1.cell? ⟨wm.heap.size, n, none⟩ = some (.string ⟨L.toArray⟩) := by
    intro n hn
    have hx := eight_cells hW n (by simpa using hn)
    have h' : n = 0 ∨ n = 1 ∨ n = 2 ∨ n = 3 ∨ n = 4 ∨ n = 5 ∨ n = 6 ∨ n = 7 := by omega
    rcases h' with rfl | rfl | rfl | rfl | rfl | rfl | rfl | rfl
    · exact ⟨_, by have := HT1.out (i % (S.length : Int)); omega, hx⟩
    · exact ⟨_, by have := HT2.out (i % (S.length : Int)) (j % (S.length : Int)); omega, hx⟩
    · exact ⟨_, by omega, hx⟩
    · exact ⟨_, by rw [List.length_append, List.length_append]; omega, hx⟩
    · exact ⟨_, by rw [List.length_append]; omega, hx⟩
    · exact ⟨_, by omega, hx⟩
    · exact ⟨_, by omega, hx⟩
    · exact ⟨_, by rw [List.length_append]; simp; omega, hx⟩
  clear hW
  generalize wm.heap.size = B at *
  have HC := Lib.hid hc
  clear hc
  go_loopw [16] (fun i w' => RowUpTo 8 w1 i w') (fun i _ => 8 - (intOf i).toNat)
  case atStart => exact ⟨0, by omega, rfl, Below.refl _ _⟩
  case round =>
    obtain ⟨n, hn, rfl, hb⟩ := hrel
    by_cases h8 : n < 8
    · obtain ⟨L, hL, hcell⟩ := HC.out n h8
      have d8 : decide ((n : Int) < 8) = true := by simp; omega
      have hck : wr.cell? ⟨B, n, none⟩ = some (.string ⟨L.toArray⟩) := by rw [hb.cell (p := ⟨B, n, none⟩) hlt]; exact hcell
      clear hcell
      obtain ⟨x, e, hx, he0, he5⟩ := openR_parts L
      have HX := Lib.hid hx
      clear hx
      go_wp2_with fail
      refine (copen_any L _ (by omega)).mono ?_
      rintro e2 wm2 ⟨rfl, hbm⟩
      rw [HX.out]
      have hb2 := hb.trans (hbm.mono hb.size)
      have hcm : wm2.cell? ⟨B, n, none⟩ = some (.string ⟨L.toArray⟩) := by
        rw [hbm.cell (p := ⟨B, n, none⟩) (Nat.lt_of_lt_of_le hlt hb.size)]; exact hck
      clear hck hbm hb
      go_wp2_with fail
      refine (ropen_any L _ (by omega)).mono ?_
      rintro e2 wm3 ⟨rfl, hbm⟩
      rw [HX.out]
      have hb3 := hb2.trans (hbm.mono hb2.size)
      clear hcm hbm hb2
      go_wp2
      go_roundw
      case rel => exact ⟨n + 1, by omega, by go_num, hb3⟩
      case measure => simp [intOf]; omega
    · have d8 : decide ((n : Int) < 8) = false := by simp; omega
      have hB := hB1.trans (hb.mono hB1.size)
      go_wp2
      go_ret
      exact ⟨rfl, hB⟩

end Go.Proofs.Ytholemhfbafipaa

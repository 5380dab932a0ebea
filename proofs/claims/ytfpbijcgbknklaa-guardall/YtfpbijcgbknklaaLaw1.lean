/-
  Contract of the laws' Text: signs by numbers; nothing that was in memory is changed.
-/
import Derived.Test.YtfpbijcgbknklaaLaw0
namespace Go.Proofs.Ytfpbijcgbknklaa
open Go.RowKit Plait
set_option maxRecDepth 100000
set_option linter.unusedVariables false

/-- The loop of Text. -/
def TextAtL (zs : List Int) (w : World) (s i : Value) (w' : World) : Prop :=
  ∃ k : Nat, k ≤ zs.length ∧ k ≤ 80 ∧ i = .int .i64 k ∧ s = .string ⟨((zs.take k).map signOf).toArray⟩ ∧ Below w.heap.size w w'

theorem sign_cell (j : Nat) (h : j < 11) : [Value.string ⟨#[48]⟩, Value.string ⟨#[49]⟩, Value.string ⟨#[48]⟩, Value.string ⟨#[49]⟩, Value.string ⟨#[48]⟩, Value.string ⟨#[49]⟩, Value.string ⟨#[48]⟩, Value.string ⟨#[49]⟩, Value.string ⟨#[35]⟩, Value.string ⟨#[46]⟩, Value.string ⟨#[120]⟩][j]'(by simpa using h) = .string ⟨#[signs.getD j 0]⟩ := by
  have h' : j = 0 ∨ j = 1 ∨ j = 2 ∨ j = 3 ∨ j = 4 ∨ j = 5 ∨ j = 6 ∨ j = 7 ∨ j = 8 ∨ j = 9 ∨ j = 10 := by omega
  rcases h' with rfl | rfl | rfl | rfl | rfl | rfl | rfl | rfl | rfl | rfl | rfl <;> rfl

theorem sign_take (zs : List Int) (k : Nat) (h : k < zs.length) (j : Nat) (hj : zs[k] % 11 = j) : (zs.take (k + 1)).map signOf = (zs.take k).map signOf ++ [signs.getD j 0] := by
  rw [List.take_succ_eq_append_getElem h, List.map_append]
  simp [signOf, hj]

theorem textL_of (zs : List Int) (k : Nat) (h : k ≤ zs.length) (h2 : k ≤ 80) (h3 : k = zs.length ∨ k = 80) : (zs.take k).map signOf = textL zs := by
  unfold textL
  rcases h3 with rfl | rfl
  · rw [List.take_of_length_le (Nat.le_refl _), List.take_of_length_le h2]
  · rfl

set_option maxHeartbeats 800000 in
theorem text_any (a : Option Addr) (zs : List Int) (cap : Nat) (w : World) (hrow : Row w a zs) :
    Calls Try.prog 9 #[.slice a zs.length cap] w fun e w' => e = .returned (.string ⟨(textL zs).toArray⟩) ∧ Below w.heap.size w w' := by
  have hl := hrow.1
  go_enter Try.func9, Try.ntmps9
  go_wp2
  go_loopw [3, 4] (fun s i w' => TextAtL zs w s i w') (fun _ i _ => zs.length - (intOf i).toNat)
  case atStart => exact ⟨0, Nat.zero_le _, Nat.zero_le _, rfl, by simp, Below.refl _ _⟩
  case round =>
    obtain ⟨k, hk, hk2, rfl, rfl, hb⟩ := hrel
    by_cases hlt : k < zs.length
    · have d1 : decide (k < zs.length) = true := by simpa using hlt
      by_cases h80 : k < 80
      · have d2 : decide ((k : Int) < 80) = true := by simp; omega
        have hlen : ((zs.take k).map signOf).length ≤ 80 := by simp; omega
        obtain ⟨_, hz, h3⟩ := hrow
        rcases h3 with h3 | ⟨b, off, rfl, hbl, hc⟩
        · rw [h3] at hlt; simp at hlt
        have hck : wr.cell? ⟨b, off + k, none⟩ = some (.int .i64 zs[k]) := by rw [hb.cell (p := ⟨b, off + k, none⟩) hbl]; exact hc k hlt
        have hzk := hz zs[k] (List.getElem_mem hlt)
        obtain ⟨j, hj⟩ : ∃ j : Nat, zs[k] % 11 = j := ⟨(zs[k] % 11).toNat, by omega⟩
        have hj11 : j < 11 := by omega
        have HT := Lib.hid (sign_take zs k hlt j hj)
        have hsg := sign_cell j hj11
        generalize signs.getD j 0 = c at *
        generalize (zs.take k).map signOf = L at *
        have HC := Lib.hid hc
        have HZ := Lib.hid hz
        clear hc hz
        have hbw := hb.size
        have hbl2 : b < wr.heap.size := by omega
        have HJ := Lib.hid hj
        clear hj
        go_wp2_with fail
        refine (within_any _ _ _ (by omega) (by omega)).mono ?_
        rintro e w2 ⟨rfl, rfl⟩
        rw [HJ.out]
        go_wp2
        go_roundw
        case rel => exact ⟨k + 1, by omega, by omega, by go_num, by rw [HT.out], hb.alloc hbw _⟩
        case measure => simp [intOf]; omega
      · have d2 : decide ((k : Int) < 80) = false := by simp; omega
        rw [textL_of zs k hk hk2 (.inr (by omega))]
        go_wp2
        go_ret
        exact ⟨rfl, hb⟩
    · have d1 : decide (k < zs.length) = false := by simpa using hlt
      rw [textL_of zs k hk hk2 (.inl (by omega))]
      go_wp2
      go_ret
      exact ⟨rfl, hb⟩

end Go.Proofs.Ytfpbijcgbknklaa

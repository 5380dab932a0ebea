/-
  The walk of SymAll: it answers true, for all rows of numbers, texts and places.
-/
import Derived.Test.YtopjhhpbjpfbfaaLaw2
import Derived.Deep.RegionHeld3
namespace Go.Proofs.Ytopjhhpbjpfbfaa
open Go.RowKit Plait
set_option linter.unusedVariables false

/-- A loop over the row of texts: the row stays. -/
def UpTo (n : Nat) (w1 : World) (i : Value) (w' : World) : Prop := ∃ k : Nat, k ≤ n ∧ i = .int .i64 k ∧ Below w1.heap.size w1 w'

theorem five_cells (w : World) (x0 x1 x2 x3 x4 : Value) (k : Nat) (h : k < 5) : (w.alloc (.cells #[x0, x1, x2, x3, x4] 9)).cell? ⟨w.heap.size, k, none⟩ = some ([x0, x1, x2, x3, x4].getD k x0) := by
  rw [World.cell?_alloc_mark]
  have h' : k = 0 ∨ k = 1 ∨ k = 2 ∨ k = 3 ∨ k = 4 := by omega
  rcases h' with rfl | rfl | rfl | rfl | rfl <;> rfl

theorem keep_later {w1 W wm : World} {B k : Nat} {v : Value} (hlt : B < w1.heap.size) (h : W.cell? ⟨B, k, none⟩ = some v ∧ Below w1.heap.size w1 W) (hbm : Below W.heap.size W wm) : wm.cell? ⟨B, k, none⟩ = some v ∧ Below w1.heap.size w1 wm :=
  ⟨by rw [hbm.cell (p := ⟨B, k, none⟩) (Nat.lt_of_lt_of_le hlt h.2.size)]; exact h.1, h.2.trans (hbm.mono h.2.size)⟩

theorem keep_later2 {w1 W wm : World} {B k k2 : Nat} {v v2 : Value} (hlt : B < w1.heap.size) (h : W.cell? ⟨B, k, none⟩ = some v ∧ W.cell? ⟨B, k2, none⟩ = some v2 ∧ Below w1.heap.size w1 W) (hbm : Below W.heap.size W wm) : wm.cell? ⟨B, k, none⟩ = some v ∧ wm.cell? ⟨B, k2, none⟩ = some v2 ∧ Below w1.heap.size w1 wm :=
  ⟨(keep_later hlt ⟨h.1, h.2.2⟩ hbm).1, keep_later hlt h.2 hbm⟩

set_option maxHeartbeats 8000000 in
set_option maxRecDepth 100000 in
theorem symAll_walk (a0 : Option Addr) (z0 : List Int) (cap0 : Nat) (a1 : Option Addr) (z1 : List Int) (cap1 : Nat) (R : List UInt8) (q : Int) (w : World) (r0 : Row w a0 z0) (r1 : Row w a1 z1) (hR : R.length ≤ 9223372036854775807) (hq1 : -9223372036854775808 ≤ q) (hq2 : q ≤ 9223372036854775807) :
    Calls Try.prog 3 #[.slice a0 z0.length cap0, .slice a1 z1.length cap1, .string ⟨R.toArray⟩, .int .i64 q] w fun e w' => e = .returned (.bool true) ∧ Below w.heap.size w w' := by
  have hB : Below w.heap.size w w := Below.refl _ _
  have l0 := textL_length z0
  have l1 := textL_length z1
  by_cases h200 : 200 < R.length
  · have d : decide ((200 : Int) < (R.length : Int)) = true := by simp; omega
    go_enter Try.func3, Try.ntmps3
    go_wp2_with fail
    refine (known_any _).mono ?_
    rintro e wn ⟨rfl, hb⟩
    go_wp2
    go_ret
    exact ⟨rfl, hb⟩
  have d : decide ((200 : Int) < (R.length : Int)) = false := by simp; omega
  go_enter Try.func3, Try.ntmps3
  go_wp2_with fail
  refine (known_any _).mono ?_
  rintro e wn ⟨rfl, hb⟩
  replace hB := hB.trans (hb.mono hB.size)
  clear hb
  go_wp2_with fail
  refine (text_any a0 z0 cap0 _ (r0.later hB)).mono ?_
  rintro e wn ⟨rfl, hb⟩
  replace hB := hB.trans (hb.mono hB.size)
  clear hb
  go_wp2_with fail
  refine (text_any a1 z1 cap1 _ (r1.later hB)).mono ?_
  rintro e wn ⟨rfl, hb⟩
  replace hB := hB.trans (hb.mono hB.size)
  clear hb
  go_wp2_with fail
  refine (text_any a0 z0 cap0 _ (r0.later hB)).mono ?_
  rintro e wn ⟨rfl, hb⟩
  replace hB := hB.trans (hb.mono hB.size)
  clear hb r0 r1
  generalize textL z0 = N at *
  generalize textL z1 = M at *
  go_wp2
  have hB1 : Below w.heap.size w (wn.alloc (.cells #[Value.string ⟨N.toArray⟩, Value.string ⟨M.toArray⟩, Value.string ⟨R.toArray⟩, Value.string ⟨(N ++ R).toArray⟩, Value.string ⟨#[]⟩] 9)) := hB.alloc hB.size _
  have hc : ∀ k, k < 5 → ∃ L : List UInt8, L.length ≤ 280 ∧ (wn.alloc (.cells #[Value.string ⟨N.toArray⟩, Value.string ⟨M.toArray⟩, Value.string ⟨R.toArray⟩, Value.string ⟨(N ++ R).toArray⟩, Value.string ⟨#[]⟩] 9)).cell? ⟨wn.heap.size, k, none⟩ = some (.string ⟨L.toArray⟩) := by
    intro k hk
    rw [five_cells wn _ _ _ _ _ k hk]
    have h' : k = 0 ∨ k = 1 ∨ k = 2 ∨ k = 3 ∨ k = 4 := by omega
    rcases h' with rfl | rfl | rfl | rfl | rfl
    · exact ⟨N, by omega, rfl⟩
    · exact ⟨M, by omega, rfl⟩
    · exact ⟨R, by omega, rfl⟩
    · exact ⟨N ++ R, by simp; omega, rfl⟩
    · exact ⟨[], by simp, rfl⟩
  have hlt : wn.heap.size < (wn.alloc (.cells #[Value.string ⟨N.toArray⟩, Value.string ⟨M.toArray⟩, Value.string ⟨R.toArray⟩, Value.string ⟨(N ++ R).toArray⟩, Value.string ⟨#[]⟩] 9)).heap.size := by simp
  generalize wn.alloc (.cells #[Value.string ⟨N.toArray⟩, Value.string ⟨M.toArray⟩, Value.string ⟨R.toArray⟩, Value.string ⟨(N ++ R).toArray⟩, Value.string ⟨#[]⟩] 9) = w1 at *
  generalize wn.heap.size = B at *
  clear hB
  have HC := Lib.hid hc
  clear hc
  go_loopw [10] (fun i w' => UpTo 5 w1 i w') (fun i _ => 5 - (intOf i).toNat)
  case atStart => exact ⟨0, by omega, rfl, Below.refl _ _⟩
  case round =>
    obtain ⟨k, hk, rfl, hb⟩ := hrel
    by_cases h5 : k < 5
    · obtain ⟨L, hL, hcell⟩ := HC.out k h5
      have d5 : decide ((k : Int) < 5) = true := by simp; omega
      have HCell := Lib.hid hcell
      have hck : wr.cell? ⟨B, k, none⟩ = some (.string ⟨L.toArray⟩) := by rw [hb.cell (p := ⟨B, k, none⟩) hlt]; exact hcell
      clear hcell
      have HL := Lib.hid hL
      have hmod0 := Int.emod_nonneg q (show (L.length : Int) + 1 ≠ 0 by omega)
      have hmod1 := Int.emod_lt_of_pos q (show (0 : Int) < (L.length : Int) + 1 by omega)
      have g0 : (0 : Int) ≤ (k : Int) := by omega
      have g1 : (k : Int) < 5 := by omega
      have hwr : IntKind.i64.wrap ((L.length : Int) + 1) = (L.length : Int) + 1 := wrap_small _ (by omega) (by omega)
      go_wp2_with fail
      dsimp only [List.append]
      go_region_held3 (fun W => W.cell? ⟨B, k, none⟩ = some (.string ⟨L.toArray⟩) ∧ Below w1.heap.size w1 W)
        (first | exact ⟨hck, hb.drew⟩ | assumption | exact keep_later hlt ‹_› hbm | exact ⟨‹_›, ‹_›⟩)
        (first
        | (go_at_call 13; refine (clean_any _ _ ?_).mono ?_; omega; rintro e wm ⟨rfl, hbm⟩)
        | (go_at_call 14; refine (rclean_any _ _ ?_).mono ?_; omega; rintro e wl ⟨rfl, rfl⟩)
        | (go_at_call 15; refine (whole_any _ _ ?_).mono ?_; omega; rintro e wm ⟨rfl, hbm⟩)
        | (go_at_call 16; refine (rwhole_any _ _ ?_).mono ?_; omega; rintro e wl ⟨rfl, rfl⟩)
        | (go_at_call 17; refine (turn_any _ _ _ ?_).mono ?_; omega; rintro e wm ⟨rfl, hbm⟩)
        | (go_at_call 18; refine (rturn_any _ _ _ ?_).mono ?_; omega; rintro e wm ⟨rfl, hbm⟩)
        | (go_at_call 19; refine (within_any _ _ _ ?_ ?_).mono ?_; omega; omega; rintro e wl ⟨rfl, rfl⟩))
      clear hwr hmod0 hmod1 hck hb
      go_wp2_with fail
      go_loopw [11] (fun i w' => UpTo 5 w1 i w') (fun i _ => 5 - (intOf i).toNat)
      case atStart =>
        refine ⟨0, by omega, rfl, ?_⟩
        go_split_ands
        assumption
      case round =>
        obtain ⟨k2, hk2, rfl, hb⟩ := hrel
        by_cases h52 : k2 < 5
        · obtain ⟨L2, hL2, hcell2⟩ := HC.out k2 h52
          have d52 : decide ((k2 : Int) < 5) = true := by simp; omega
          have hc1 : wr.cell? ⟨B, k, none⟩ = some (.string ⟨L.toArray⟩) := by rw [hb.cell (p := ⟨B, k, none⟩) hlt]; exact HCell.out
          have hc2 : wr.cell? ⟨B, k2, none⟩ = some (.string ⟨L2.toArray⟩) := by rw [hb.cell (p := ⟨B, k2, none⟩) hlt]; exact hcell2
          have g2 : (0 : Int) ≤ (k2 : Int) := by omega
          have g3 : (k2 : Int) < 5 := by omega
          clear hcell2
          go_wp2_with fail
          go_region_held3 (fun W => W.cell? ⟨B, k, none⟩ = some (.string ⟨L.toArray⟩) ∧ W.cell? ⟨B, k2, none⟩ = some (.string ⟨L2.toArray⟩) ∧ Below w1.heap.size w1 W)
            (first | exact ⟨hc1, hc2, hb.drew⟩ | assumption | exact keep_later2 hlt ‹_› hbm | exact ⟨‹_›, ‹_›, ‹_›⟩)
            (first
            | (go_at_call 20; refine (common_any _ _ _ ?_ ?_).mono ?_; omega; omega; rintro e wm ⟨rfl, hbm⟩)
            | (go_at_call 21; refine (rcommon_any _ _ _ ?_ ?_).mono ?_; omega; omega; rintro e wm ⟨rfl, hbm⟩)
            | (go_at_call 22; refine (front_any _ _ _).mono ?_; rintro e wl ⟨rfl, rfl⟩)
            | (go_at_call 23; refine (rfront_any _ _ _ ?_ ?_).mono ?_; omega; omega; rintro e wl ⟨rfl, rfl⟩))
          go_wp2
          go_roundw
          case rel =>
            refine ⟨k2 + 1, by omega, by go_num, ?_⟩
            go_split_ands
            assumption
          case measure => simp [intOf]; omega
        · have d52 : decide ((k2 : Int) < 5) = false := by simp; omega
          go_wp2
          go_roundw
          case rel => exact ⟨k + 1, by omega, by go_num, hb⟩
          case measure => simp [intOf]; omega
    · have d5 : decide ((k : Int) < 5) = false := by simp; omega
      have hB := hB1.trans (hb.mono hB1.size)
      go_wp2
      go_ret
      exact ⟨rfl, hB⟩

end Go.Proofs.Ytopjhhpbjpfbfaa

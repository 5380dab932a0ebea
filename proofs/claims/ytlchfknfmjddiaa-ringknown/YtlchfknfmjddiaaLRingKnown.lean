/-
  RingKnown's walk.
-/
import Derived.Test.YtlchfknfmjddiaaLaw40
namespace Go.Proofs.Ytlchfknfmjddiaa
open Go.RowKit Plait
set_option linter.unusedVariables false

set_option maxRecDepth 100000 in
set_option maxHeartbeats 12800000 in
theorem ringKnown_walk (wh : Int) (w : World) (n1 : -9223372036854775808 ≤ wh) (n2 : wh ≤ 9223372036854775807) :
    Calls Try.prog 7 #[.int .i64 wh] w fun e w' => e = .returned (.bool true) ∧ Below w.heap.size w w' := by
  have hB : Below w.heap.size w w := Below.refl _ _
  go_enter Try.func7, Try.ntmps7
  go_wp2_with fail
  refine (known4_any _).mono ?_
  rintro e wn ⟨rfl, hb⟩
  replace hB := hB.trans (hb.mono hB.size)
  clear hb
  go_wp2_with fail
  refine (gEnds_any 7 6 _ (by omega) (by omega) (by omega) (by omega)).mono ?_
  rintro e wn ⟨rfl, hb⟩
  replace hB := hB.trans (hb.mono hB.size)
  clear hb
  rw [show endA 7 6 = 6 by decide]
  rw [show endB 7 6 = 0 by decide]
  go_wp2_with fail
  refine (gEnds_any 7 12 _ (by omega) (by omega) (by omega) (by omega)).mono ?_
  rintro e wn ⟨rfl, hb⟩
  replace hB := hB.trans (hb.mono hB.size)
  clear hb
  rw [show endA 7 12 = 5 by decide]
  rw [show endB 7 12 = 0 by decide]
  go_wp2_with fail
  refine (gLink_any 7 5 0 _ (by omega) (by omega) ⟨by omega, by omega⟩ ⟨by omega, by omega⟩).mono ?_
  rintro e wn ⟨rfl, hb⟩
  replace hB := hB.trans (hb.mono hB.size)
  clear hb
  rw [show linkI 7 5 0 = ((12 : Int), true) by decide]
  go_wp2_with fail
  refine (gLink_any 7 1 4 _ (by omega) (by omega) ⟨by omega, by omega⟩ ⟨by omega, by omega⟩).mono ?_
  rintro e wn ⟨rfl, hb⟩
  replace hB := hB.trans (hb.mono hB.size)
  clear hb
  rw [show linkI 7 1 4 = ((0 : Int), false) by decide]
  go_wp2_with fail
  refine (gLink_any 7 3 3 _ (by omega) (by omega) ⟨by omega, by omega⟩ ⟨by omega, by omega⟩).mono ?_
  rintro e wn ⟨rfl, hb⟩
  replace hB := hB.trans (hb.mono hB.size)
  clear hb
  rw [show linkI 7 3 3 = ((0 : Int), false) by decide]
  go_wp2_with fail
  refine (gAt_any 7 0 (-1) _ (by omega) (by omega) ⟨by omega, by omega⟩ ⟨by omega, by omega⟩).mono ?_
  rintro e wn ⟨rfl, hb⟩
  replace hB := hB.trans (hb.mono hB.size)
  clear hb
  rw [show ((0 : Int) + (-1)) % 7 = 6 by decide]
  go_wp2_with fail
  refine (gAt_any 7 3 (700) _ (by omega) (by omega) ⟨by omega, by omega⟩ ⟨by omega, by omega⟩).mono ?_
  rintro e wn ⟨rfl, hb⟩
  replace hB := hB.trans (hb.mono hB.size)
  clear hb
  rw [show ((3 : Int) + (700)) % 7 = 3 by decide]
  go_wp2_with fail
  refine (gDist_any 7 2 2 (1) _ (by omega) (by omega) ⟨by omega, by omega⟩ ⟨by omega, by omega⟩ ⟨by omega, by omega⟩ ⟨by omega, by omega⟩).mono ?_
  rintro e wn ⟨rfl, hb⟩
  replace hB := hB.trans (hb.mono hB.size)
  clear hb
  rw [show distI 7 2 2 (1) = 0 by decide]
  go_wp2_with fail
  refine (gDist_any 7 0 6 (-1) _ (by omega) (by omega) ⟨by omega, by omega⟩ ⟨by omega, by omega⟩ ⟨by omega, by omega⟩ ⟨by omega, by omega⟩).mono ?_
  rintro e wn ⟨rfl, hb⟩
  replace hB := hB.trans (hb.mono hB.size)
  clear hb
  rw [show distI 7 0 6 (-1) = 1 by decide]
  go_wp2_with fail
  refine (gDist_any 7 0 6 (1) _ (by omega) (by omega) ⟨by omega, by omega⟩ ⟨by omega, by omega⟩ ⟨by omega, by omega⟩ ⟨by omega, by omega⟩).mono ?_
  rintro e wn ⟨rfl, hb⟩
  replace hB := hB.trans (hb.mono hB.size)
  clear hb
  rw [show distI 7 0 6 (1) = 6 by decide]
  go_wp2_with fail
  refine (gWay_any 6 _ [4] 1 (1) _ (by omega) (by omega) (by omega) (Row.made wn [4] _ (by simp) (by simp)) (fun y hy => by injection hy with hy; rw [← hy]; simp) (by simp)).mono ?_
  rintro e wm ⟨al, cl, rfl, hl, hal, hb⟩
  replace hB := hB.trans (((alloc_below wn _).trans (hb.mono (alloc_below wn _).size)).mono hB.size)
  clear hb hal
  rw [show wayI 6 [4] (1) = [5, 0, 1, 2, 3] by decide] at hl ⊢
  have hr := Row.made wm [5, 0, 1, 2, 3] 3 (by simp) (by simp)
  replace hl := hl.alloc (.cells ([5, 0, 1, 2, 3].map (Value.int .i64)).toArray 3)
  go_wp2_with fail
  refine (rsame_any al _ [5, 0, 1, 2, 3] [5, 0, 1, 2, 3] cl 5 _ hl hr).mono ?_
  rintro e wn ⟨rfl, hb⟩
  replace hB := hB.trans (((alloc_below wm _).trans (hb.mono (alloc_below wm _).size)).mono hB.size)
  clear hb hl hr
  rw [show (([5, 0, 1, 2, 3] : List Int) == [5, 0, 1, 2, 3]) = true by decide]
  go_wp2_with fail
  refine (gWay_any 6 _ [4] 1 (-1) _ (by omega) (by omega) (by omega) (Row.made wn [4] _ (by simp) (by simp)) (fun y hy => by injection hy with hy; rw [← hy]; simp) (by simp)).mono ?_
  rintro e wm ⟨al, cl, rfl, hl, hal, hb⟩
  replace hB := hB.trans (((alloc_below wn _).trans (hb.mono (alloc_below wn _).size)).mono hB.size)
  clear hb hal
  rw [show wayI 6 [4] (-1) = [3, 2, 1, 0, 5] by decide] at hl ⊢
  have hr := Row.made wm [3, 2, 1, 0, 5] 3 (by simp) (by simp)
  replace hl := hl.alloc (.cells ([3, 2, 1, 0, 5].map (Value.int .i64)).toArray 3)
  go_wp2_with fail
  refine (rsame_any al _ [3, 2, 1, 0, 5] [3, 2, 1, 0, 5] cl 5 _ hl hr).mono ?_
  rintro e wn ⟨rfl, hb⟩
  replace hB := hB.trans (((alloc_below wm _).trans (hb.mono (alloc_below wm _).size)).mono hB.size)
  clear hb hl hr
  rw [show (([3, 2, 1, 0, 5] : List Int) == [3, 2, 1, 0, 5]) = true by decide]
  go_wp2_with fail
  refine (gWay_any 6 _ [5, 0] 2 (1) _ (by omega) (by omega) (by omega) (Row.made wn [5, 0] _ (by simp) (by simp)) (fun y hy => by injection hy with hy; rw [← hy]; simp) (by simp)).mono ?_
  rintro e wm ⟨al, cl, rfl, hl, hal, hb⟩
  replace hB := hB.trans (((alloc_below wn _).trans (hb.mono (alloc_below wn _).size)).mono hB.size)
  clear hb hal
  rw [show wayI 6 [5, 0] (1) = [1, 2, 3, 4] by decide] at hl ⊢
  have hr := Row.made wm [1, 2, 3, 4] 3 (by simp) (by simp)
  replace hl := hl.alloc (.cells ([1, 2, 3, 4].map (Value.int .i64)).toArray 3)
  go_wp2_with fail
  refine (rsame_any al _ [1, 2, 3, 4] [1, 2, 3, 4] cl 4 _ hl hr).mono ?_
  rintro e wn ⟨rfl, hb⟩
  replace hB := hB.trans (((alloc_below wm _).trans (hb.mono (alloc_below wm _).size)).mono hB.size)
  clear hb hl hr
  rw [show (([1, 2, 3, 4] : List Int) == [1, 2, 3, 4]) = true by decide]
  go_wp2_with fail
  refine (gWay_any 6 _ [5, 0] 2 (-1) _ (by omega) (by omega) (by omega) (Row.made wn [5, 0] _ (by simp) (by simp)) (fun y hy => by injection hy with hy; rw [← hy]; simp) (by simp)).mono ?_
  rintro e wm ⟨al, cl, rfl, hl, hal, hb⟩
  replace hB := hB.trans (((alloc_below wn _).trans (hb.mono (alloc_below wn _).size)).mono hB.size)
  clear hb hal
  rw [show wayI 6 [5, 0] (-1) = [4, 3, 2, 1] by decide] at hl ⊢
  have hr := Row.made wm [4, 3, 2, 1] 3 (by simp) (by simp)
  replace hl := hl.alloc (.cells ([4, 3, 2, 1].map (Value.int .i64)).toArray 3)
  go_wp2_with fail
  refine (rsame_any al _ [4, 3, 2, 1] [4, 3, 2, 1] cl 4 _ hl hr).mono ?_
  rintro e wn ⟨rfl, hb⟩
  replace hB := hB.trans (((alloc_below wm _).trans (hb.mono (alloc_below wm _).size)).mono hB.size)
  clear hb hl hr
  rw [show (([4, 3, 2, 1] : List Int) == [4, 3, 2, 1]) = true by decide]
  go_wp2_with fail
  refine (within4_any wh 10 _ (by omega) (by omega)).mono ?_
  rintro e wl ⟨rfl, rfl⟩
  obtain ⟨j, hj, hj10⟩ : ∃ j : Nat, wh % 10 = (j : Int) ∧ j < 10 := ⟨(wh % 10).toNat, by omega, by omega⟩
  rw [hj]
  clear hj
  have hK := Blk.new wn 4 #[.bool true, .bool true, .bool true, .bool true, .bool true, .bool true, .bool true, .bool true, .bool true, .bool true]
  have hc : (wn.alloc (.cells #[.bool true, .bool true, .bool true, .bool true, .bool true, .bool true, .bool true, .bool true, .bool true, .bool true] 4)).cell? ⟨wn.heap.size, j, none⟩ = some (.bool true) := by
    rw [hK.at]
    rcases (by omega : j = 0 ∨ j = 1 ∨ j = 2 ∨ j = 3 ∨ j = 4 ∨ j = 5 ∨ j = 6 ∨ j = 7 ∨ j = 8 ∨ j = 9) with rfl | rfl | rfl | rfl | rfl | rfl | rfl | rfl | rfl | rfl <;> rfl
  have hS := hB.alloc hB.size (.cells #[.bool true, .bool true, .bool true, .bool true, .bool true, .bool true, .bool true, .bool true, .bool true, .bool true] 4)
  generalize wn.alloc _ = W at *
  clear hK hB
  have j0 : (0 : Int) ≤ (j : Int) := by omega
  have j1 : (j : Int) < 10 := by omega
  go_wp2
  go_ret
  exact ⟨rfl, hS⟩

end Go.Proofs.Ytlchfknfmjddiaa

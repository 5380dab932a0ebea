/-
  The walk of CrcKnown: it answers true, for all numbers.
-/
import Derived.Test.YtholemhfbafipaaLCrcOne
namespace Go.Proofs.Ytholemhfbafipaa
open Go.RowKit Plait
set_option linter.unusedVariables false

theorem two_rows {wn w1 : World} {xs ys : List Value} {s t : TypeId} (hW : (wn.alloc (.cells xs.toArray s)).alloc (.cells ys.toArray t) = w1) (k : Nat) (hx : k < xs.length) (hy : k < ys.length) :
    w1.cell? ⟨wn.heap.size, k, none⟩ = some xs[k] ∧ w1.cell? ⟨wn.heap.size + 1, k, none⟩ = some ys[k] := by
  have hs : (wn.alloc (.cells xs.toArray s)).heap.size = wn.heap.size + 1 := by simp
  rw [← hW]
  constructor
  · rw [World.cell?_alloc_lt _ _ _ (by rw [hs]; exact Nat.lt_succ_self _), World.cell?_alloc_mark]
    simp [hx]
  · rw [← hs, World.cell?_alloc_mark]
    simp [hy]

theorem keep_rows {w W wm : World} {B C k : Nat} {u v : Value} (h : B < W.heap.size ∧ C < W.heap.size ∧ W.cell? ⟨B, k, none⟩ = some u ∧ W.cell? ⟨C, k, none⟩ = some v ∧ Below w.heap.size w W) (hbm : Below W.heap.size W wm) :
    B < wm.heap.size ∧ C < wm.heap.size ∧ wm.cell? ⟨B, k, none⟩ = some u ∧ wm.cell? ⟨C, k, none⟩ = some v ∧ Below w.heap.size w wm :=
  ⟨Nat.lt_of_lt_of_le h.1 hbm.size, Nat.lt_of_lt_of_le h.2.1 hbm.size, by rw [hbm.cell (p := ⟨B, k, none⟩) h.1]; exact h.2.2.1, by rw [hbm.cell (p := ⟨C, k, none⟩) h.2.1]; exact h.2.2.2.1, h.2.2.2.2.trans (hbm.mono h.2.2.2.2.size)⟩

set_option maxHeartbeats 1600000 in
theorem crcKnown_walk (i : Int) (w : World) (hi1 : -9223372036854775808 ≤ i) (hi2 : i ≤ 9223372036854775807) :
    Calls Try.prog 7 #[.int .i64 i] w fun e w' => e = .returned (.bool true) ∧ Below w.heap.size w w' := by
  have hB : Below w.heap.size w w := Below.refl _ _
  go_enter Try.func7, Try.ntmps7
  go_wp2_with fail
  refine (known2_any _).mono ?_
  rintro e wn ⟨rfl, hb⟩
  replace hB := hB.trans (hb.mono hB.size)
  clear hb
  go_wp2_with fail
  refine (within2_any _ _ _ (by omega) (by omega)).mono ?_
  rintro e wl ⟨rfl, rfl⟩
  obtain ⟨q, hq⟩ : ∃ q : Nat, i % 5 = q := ⟨(i % 5).toNat, by omega⟩
  have hq5 : q < 5 := by omega
  rw [hq]
  clear hq
  generalize hW : World.alloc (World.alloc wn _) _ = w1
  have hBw : Below w.heap.size w w1 := by rw [← hW]; exact (hB.alloc hB.size _).alloc (by simp; have := hB.size; omega) _
  have hsz : wn.heap.size + 1 < w1.heap.size := by rw [← hW]; simp
  obtain ⟨X, v, hXl, hXa, hXs, hc1, hc2⟩ : ∃ (X : List UInt8) (v : Int), X.length ≤ 100 ∧ allBits X ∧ sumI X = v ∧ w1.cell? ⟨wn.heap.size, q, none⟩ = some (.string ⟨X.toArray⟩) ∧ w1.cell? ⟨wn.heap.size + 1, q, none⟩ = some (.int .i64 v) := by
    have hc := two_rows hW q (by simpa using hq5) (by simpa using hq5)
    have h' : q = 0 ∨ q = 1 ∨ q = 2 ∨ q = 3 ∨ q = 4 := by omega
    rcases h' with rfl | rfl | rfl | rfl | rfl
    · exact ⟨_, _, by decide, by unfold allBits; decide, by decide, hc.1, hc.2⟩
    · exact ⟨_, _, by decide, by unfold allBits; decide, by decide, hc.1, hc.2⟩
    · exact ⟨_, _, by decide, by unfold allBits; decide, by decide, hc.1, hc.2⟩
    · exact ⟨_, _, by decide, by unfold allBits; decide, by decide, hc.1, hc.2⟩
    · exact ⟨_, _, by decide, by unfold allBits; decide, by decide +kernel, hc.1, hc.2⟩
  clear hW hB
  generalize wn.heap.size = B at *
  have HX := Lib.hid hXa
  have g0 : (0 : Int) ≤ (q : Int) := by omega
  have g1 : (q : Int) < 5 := by omega
  have hB1 : B < w1.heap.size := by omega
  clear hXa
  go_wp2_with fail
  go_region_held3 (fun W => B < W.heap.size ∧ B + 1 < W.heap.size ∧ W.cell? ⟨B, q, none⟩ = some (.string ⟨X.toArray⟩) ∧ W.cell? ⟨B + 1, q, none⟩ = some (.int .i64 v) ∧ Below w.heap.size w W)
    (first | exact ⟨hB1, hsz, hc1, hc2, hBw.drew⟩ | assumption | exact keep_rows ‹_› hbm | exact ⟨‹_›, ‹_›, ‹_›, ‹_›, ‹_›⟩)
    (first | (go_at_call 15; refine (csum_any _ _ ?_ HX.out).mono ?_; omega; rintro e wm ⟨rfl, hbm⟩))
  go_wp2
  go_ret
  go_split_ands
  exact ⟨rfl, by assumption⟩

end Go.Proofs.Ytholemhfbafipaa

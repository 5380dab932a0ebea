/-
  Contracts of plaitingref3: what the document's own chapter 3 answers of networks.
-/
import Derived.Test.YtfpbijcgbknklaaConf2
namespace Go.Proofs.Ytfpbijcgbknklaa
open Go.RowKit Plait
set_option maxRecDepth 100000
set_option linter.unusedVariables false

theorem rwindow_any (c : Cf) (a : Option Addr) (cap : Nat) (w : World) (hc : c.Ok) :
    Calls Try.prog 19 #[.agg #[.int .i64 c.N, .int .i64 c.Pi, .int .i64 c.E, .int .i64 c.G, .int .i64 c.F, .slice a c.P.length cap]] w fun e w' => e = .returned (.int .i64 (windowI c)) ∧ Below w.heap.size w w' := by
  have h1 := hc.p0; have h2 := hc.p1; have h3 := hc.e0; have h4 := hc.g0
  go_enter Try.func19, Try.ntmps19
  go_wp2
  go_ret
  exact ⟨rfl, alloc_below _ _⟩

/-- The loop of In. -/
def InAt (zs : List Int) (x : Int) (i : Value) : Prop := ∃ k : Nat, k ≤ zs.length ∧ i = .int .i64 k ∧ inB (zs.take k) x = false

theorem in_step (zs : List Int) (x : Int) (k : Nat) (h : k < zs.length) (ha : inB (zs.take k) x = false) (hn : zs[k] ≠ x) : inB (zs.take (k + 1)) x = false := by
  unfold inB at *
  rw [List.take_succ_eq_append_getElem h, List.contains_eq_any_beq, List.any_append, ← List.contains_eq_any_beq, ha]
  simp
  exact fun e => hn e.symm
theorem in_hit (zs : List Int) (x : Int) (k : Nat) (h : k < zs.length) (hn : zs[k] = x) : inB zs x = true := by
  unfold inB
  rw [List.contains_iff_mem, ← hn]
  exact List.getElem_mem h
theorem in_end (zs : List Int) (x : Int) (k : Nat) (h : ¬ k < zs.length) (ha : inB (zs.take k) x = false) : inB zs x = false := by
  rw [List.take_of_length_le (by omega)] at ha
  exact ha

/-- The loop of Same. -/
def SameAt (xs ys : List Int) (w : World) (i : Value) (w' : World) : Prop := ∃ k : Nat, k ≤ xs.length ∧ i = .int .i64 k ∧ xs.take k = ys.take k ∧ Below w.heap.size w w'

theorem same_step (xs ys : List Int) (k : Nat) (h : k < xs.length) (h2 : k < ys.length) (ha : xs.take k = ys.take k) (e : xs[k] = ys[k]) : xs.take (k + 1) = ys.take (k + 1) := by
  rw [List.take_succ_eq_append_getElem h, List.take_succ_eq_append_getElem h2, ha, e]
theorem same_no (xs ys : List Int) (k : Nat) (h : k < xs.length) (h2 : k < ys.length) (e : xs[k] ≠ ys[k]) : (xs == ys) = false := by
  rw [beq_eq_false_iff_ne]
  rintro rfl
  exact e rfl
theorem same_end (xs ys : List Int) (k : Nat) (h : ¬ k < xs.length) (hl : xs.length = ys.length) (ha : xs.take k = ys.take k) : (xs == ys) = true := by
  rw [List.take_of_length_le (by omega), List.take_of_length_le (by omega)] at ha
  simp [ha]

end Go.Proofs.Ytfpbijcgbknklaa

/-
  plaitinglaw5's known; what all laws of frames use.
-/
import Derived.Test.YtbghpkdkfbpmeaaDev17
import Derived.Test.YtbghpkdkfbpmeaaLaw30
namespace Go.Proofs.Ytbghpkdkfbpmeaa
open Go.RowKit Plait
set_option maxRecDepth 100000
set_option linter.unusedVariables false

theorem itemB_in {i : It} {b : Bool} (h : itemB i b = true) : (0 ≤ i.K ∧ i.K ≤ 2) ∧ 0 ≤ i.V ∧ i.V ≤ 255 := by
  unfold itemB at h
  split at h
  · simp at h; omega
  · split at h
    · simp at h; omega
    · split at h
      · simp at h; omega
      · simp at h

theorem ok_small {c : Cf} {f : Fr} (hc : c.Ok) (h : f.Ok c) : inI f.K ∧ inI f.R ∧ inI f.S ∧ inI f.P.K ∧ inI f.P.V ∧ f.E.length ≤ 15 := by
  obtain ⟨s0, s1, r0, r1, k1, k3, kp, p, pz, len, all⟩ := h
  have hs : slotsI c ≤ 15 := by have := hc.n12; have := hc.len; unfold slotsI; omega
  have hp := itemB_in p
  have he : echoI c f.K f.S ≤ 15 := by unfold echoI; split <;> omega
  unfold inI
  omega

/-- Text of a frame that may be. -/
theorem fText_ok (d : Cf) (da : Option Addr) (dc : Nat) (g : Fr) (ga : Option Addr) (gc : Nat) (w : World) (hok : d.Ok) (hokg : g.Ok d) (hE : RowT w ga g.E) :
    Calls Try.prog 49 #[.agg #[.int .i64 d.N, .int .i64 d.Pi, .int .i64 d.E, .int .i64 d.G, .int .i64 d.F, .slice da d.P.length dc], .agg #[.int .i64 g.K, .int .i64 g.R, .int .i64 g.S, .int .i64 g.P.K, .int .i64 g.P.V, .slice ga g.E.length gc]] w fun e w' => e = .returned (.string ⟨(textF g).toArray⟩) ∧ Below w.heap.size w w' := by
  obtain ⟨h1, h2, h3, h4, h5, h6⟩ := ok_small hok hokg
  exact fText_any d da dc g ga gc w hE (by omega) h1 h2 h3 h4 h5

theorem text_whole (g : Fr) : wholeB (textF g) = true := by
  unfold textF
  rw [wrapL_eq]
  exact whole_bits _ (wrapB_bits _ (frBits_all g))

/-- The chapter's example. -/
def c0 : Cf := ⟨6, 4, 0, 0, 0, []⟩
def f0 : Fr := ⟨1, 0, 0, ⟨0, 0⟩, []⟩
theorem c0_ok : c0.Ok where
  n6 := by decide
  n12 := by decide
  e0 := by decide
  e1 := by decide
  g0 := by decide
  g1 := by decide
  f0 := by decide
  f1 := by decide
  p0 := by decide
  p1 := by decide
  len := by decide
  all := by intro a ha; cases ha

end Go.Proofs.Ytbghpkdkfbpmeaa

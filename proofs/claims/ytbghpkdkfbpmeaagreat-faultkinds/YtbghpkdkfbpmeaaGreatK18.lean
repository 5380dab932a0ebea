/-
  Plain mathematics of FaultKinds: what one act emits of a frame's text.
-/
import Derived.Test.YtbghpkdkfbpmeaaGreatK15
import Derived.Test.YtbghpkdkfbpmeaaGreatK3
import Derived.Test.YtbghpkdkfbpmeaaGreatK16
namespace Go.Proofs.YtbghpkdkfbpmeaaGreat
open Go.RowKit Plait
set_option maxRecDepth 100000
set_option linter.unusedVariables false

theorem kinds_emit (c : Cf) (t : Ac) (s : Int) (b : List UInt8) : emitL c ⟨1, 2, 3, 9, [t], []⟩ 5 s 2 3 b = actL c t 5 s b := by
  unfold emitL
  have hh : hitsB c ⟨1, 2, 3, 9, [t], []⟩ 2 3 = true := rfl
  rw [if_neg (by rw [hh]; show ¬ (true = false ∨ (9 : Int) ≤ 5); simp), if_neg (by show ¬ ((5 : Int) < 3 ∨ [t] = []); simp)]
  have hp : pickA [t] (17 * 5 + 5 * s + 3) = t := by unfold pickA; simp
  show actL c (pickA [t] (17 * 5 + 5 * s + 3)) 5 s b = _
  rw [hp]

theorem text_syms (g : Fr) : ∀ c ∈ textF g, c = 48 ∨ c = 49 ∨ c = 35 := by
  intro c hc
  rw [textF, wrapL_eq] at hc
  rcases List.mem_append.1 hc with h | h
  · have := wrapB_bits _ (frBits_all g) c h
    unfold bitB at this
    rcases (by simpa using this : c = 48 ∨ c = 49) with e | e
    · exact .inl e
    · exact .inr (.inl e)
  · exact .inr (.inr (by simpa using h))

theorem turned_ne (g : Fr) (q : Nat) (h : q < (textF g).length) : (clean (turn (textF g) (q : Int)) == textF g) = false := by
  have hs := text_syms g _ (List.getElem_mem h)
  have hne : other (textF g)[q] ≠ (textF g)[q] := by
    rcases hs with e | e | e <;> rw [e] <;> decide
  rw [beq_eq_false_iff_ne]
  intro he
  have h1 : (clean (turn (textF g) (q : Int))).length = (turn (textF g) (q : Int)).length := by rw [he, turn_length]
  have h2 : clean (turn (textF g) (q : Int)) = turn (textF g) (q : Int) := by
    unfold clean at h1 ⊢
    rw [List.length_take] at h1
    exact List.take_of_length_le (by omega)
  rw [h2, turn_in _ q h] at he
  have h3 := congrArg (fun l : List UInt8 => l[q]?) he
  simp [h] at h3
  exact hne h3

theorem front_of_take (S : List UInt8) (k : Nat) : frontB (S.take k) S = true := by
  unfold frontB
  rw [List.isPrefixOf_iff_prefix]
  exact List.take_prefix k S

theorem clean_front (S : List UInt8) : frontB (clean S) S = true := front_of_take S _
theorem clean_le (S : List UInt8) : (clean S).length ≤ S.length := by unfold clean; simp; omega

/-- The frame that such an act makes of one that may be. -/
theorem data_text (c : Cf) (f : Fr) (r : Int) (hc : c.Ok) (h : f.Ok c) : dataF c r f.S (textF f) = if f.K = 3 then f else freshF c r f.S := by
  unfold dataF
  rw [readF_text c f hc h]
  simp

theorem kinds_pay (c : Cf) (f : Fr) (n : Int) (hc : c.Ok) (h : f.Ok c) : ∃ g : Fr, g.Ok c ∧ textF (payF (dataF c 5 f.S (textF f)) n) = textF g ∧ g.K = 3 ∧ g.S = f.S ∧ g.P = ⟨2, n % 256⟩ ∧ (f.K = 3 → g.R = f.R ∧ g.E = f.E) ∧ (f.K ≠ 3 → g.R = wireI c 5) := by
  have hok := dataF_ok c 5 f.S (textF f) hc h.s0 h.s1
  refine ⟨payF (dataF c 5 f.S (textF f)) n, payF_ok hok.1 hok.2 n, rfl, hok.2, ?_, rfl, fun h3 => ?_, fun h3 => ?_⟩
  · show (dataF c 5 f.S (textF f)).S = f.S
    rw [data_text c f 5 hc h]
    split <;> rfl
  · show (dataF c 5 f.S (textF f)).R = f.R ∧ (dataF c 5 f.S (textF f)).E = f.E
    rw [data_text c f 5 hc h, if_pos h3]
    exact ⟨rfl, rfl⟩
  · show (dataF c 5 f.S (textF f)).R = wireI c 5
    rw [data_text c f 5 hc h, if_neg h3]
    rfl

theorem kinds_ech (c : Cf) (f : Fr) (n : Int) (hc : c.Ok) (h : f.Ok c) : ∃ g : Fr, g.Ok c ∧ textF (echF (dataF c 5 f.S (textF f)) n) = textF g ∧ g.K = 3 ∧ g.S = f.S ∧ (∀ t ∈ g.E, t = ⟨2, n % 256⟩) ∧ (f.K = 3 → g.R = f.R ∧ g.P = f.P) ∧ (f.K ≠ 3 → g.R = wireI c 5 ∧ g.P = ⟨1, 0⟩) := by
  have hok := dataF_ok c 5 f.S (textF f) hc h.s0 h.s1
  have hD := data_text c f 5 hc h
  generalize dataF c 5 f.S (textF f) = D at *
  refine ⟨echF D n, echF_ok hok.1 n, rfl, hok.2, ?_, fun t ht => List.eq_of_mem_replicate ht, fun h3 => ?_, fun h3 => ?_⟩
  · show D.S = f.S
    by_cases h3 : f.K = 3
    · rw [hD, if_pos h3]
    · rw [hD, if_neg h3]; rfl
  · rw [if_pos h3] at hD
    subst hD
    exact ⟨rfl, rfl⟩
  · rw [if_neg h3] at hD
    subst hD
    exact ⟨rfl, rfl⟩

end Go.Proofs.YtbghpkdkfbpmeaaGreat

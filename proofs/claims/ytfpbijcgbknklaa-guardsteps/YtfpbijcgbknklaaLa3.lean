/-
  Plain mathematics of relays, on: step by step, what went out and whether it is over.
-/
import Derived.Test.YtfpbijcgbknklaaLa2
namespace Plait

/-- Behind i steps: o whether the relay is over, v whether a dot came, s what went out ahead of it. -/
def RunAt (cmp : Bool) (a b : List UInt8) (i : Nat) (o v : Bool) (s : List UInt8) : Prop :=
  (v = false ∧ LaneAt cmp a b i o ∧ s = a.take i) ∨ (v = true ∧ o = true ∧ s = outL cmp a b)

theorem RunAt.start (cmp : Bool) (a b : List UInt8) : RunAt cmp a b 0 false false [] := .inl ⟨rfl, LaneAt.start cmp a b, by simp⟩

theorem pass_not_dot {cmp o : Bool} {d k : UInt8} (h : passB cmp o d k = true) : d ≠ 46 := by
  rintro rfl
  unfold passB at h
  rw [symB_dot] at h
  simp at h

/-- A step that passes. -/
theorem RunAt.pass {cmp o v : Bool} {a b s : List UInt8} {i : Nat} (h : RunAt cmp a b i o v s) (hp : passB cmp o (padL a i) (padL b i) = true) : v = false ∧ RunAt cmp a b (i + 1) (padL a i == 35) false (s ++ [padL a i]) := by
  rcases h with ⟨hv, hL, hs⟩ | ⟨_, ho, _⟩
  · obtain ⟨hn, hi⟩ := hL.next hp
    refine ⟨hv, .inl ⟨rfl, hn, ?_⟩⟩
    rw [hs, padL_in a i hi, List.take_succ_eq_append_getElem hi]
  · subst ho
    simp [passB] at hp

/-- One that does not. -/
theorem RunAt.fail {cmp o v : Bool} {a b s : List UInt8} {i : Nat} (h : RunAt cmp a b i o v s) (hp : passB cmp o (padL a i) (padL b i) = false) : RunAt cmp a b (i + 1) true true s := by
  rcases h with ⟨hv, hL, hs⟩ | ⟨hv, ho, hs⟩
  · exact .inr ⟨rfl, rfl, by rw [hs, hL.stop hp]⟩
  · exact .inr ⟨rfl, rfl, hs⟩

/-- At the direct text's end. -/
theorem RunAt.done {cmp o v : Bool} {a b s : List UInt8} {i : Nat} (h : RunAt cmp a b i o v s) (hi : a.length ≤ i) : s = outL cmp a b := by
  rcases h with ⟨hv, hL, hs⟩ | ⟨hv, ho, hs⟩
  · have := hL.le
    have e : i = a.length := by omega
    subst e
    rw [hs, List.take_length, hL.done]
  · exact hs

/-- Behind it. -/
theorem RunAt.over {cmp o v : Bool} {a b s : List UInt8} {i : Nat} (h : RunAt cmp a b i o v s) (hi : a.length < i) : v = true ∧ o = true ∧ s = outL cmp a b := by
  rcases h with ⟨hv, hL, hs⟩ | h
  · have := hL.le
    omega
  · exact h

theorem RunAt.len {cmp o v : Bool} {a b s : List UInt8} {i : Nat} (h : RunAt cmp a b i o v s) : s.length ≤ a.length := by
  rcases h with ⟨hv, hL, hs⟩ | ⟨hv, ho, hs⟩
  · rw [hs, List.length_take]; omega
  · rw [hs]; exact outL_len cmp a b

theorem out_front_take (s : List UInt8) (k : Nat) (hs : clean s = s) : outL true s (s.take k) = s.take k := by
  have h : clean (s.take k) = s.take k := by
    have := clean_front s k
    rwa [hs] at this
  rw [outL_true, hs, h, common_symm]
  have h2 : ∀ (l : List UInt8) (n : Nat), common (l.take n) l = l.take n := by
    intro l n
    have h := common_prefix (l.take n) [] (l.drop n)
    rw [List.append_nil, List.take_append_drop, common_nil_left, List.append_nil] at h
    exact h
  exact h2 s k

end Plait

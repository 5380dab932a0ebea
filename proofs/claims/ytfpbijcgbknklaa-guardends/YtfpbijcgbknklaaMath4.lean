/-
  Plain mathematics of symbols, on: the stream at a text's front.
-/
import Derived.Test.YtfpbijcgbknklaaMath
namespace Plait

theorem clean_nil : clean [] = [] := rfl
theorem clean_cons (c : UInt8) (l : List UInt8) : clean (c :: l) = if c = 35 then [35] else if bitB c then c :: clean l else [] := by
  unfold clean
  simp only [slen, bitB]
  by_cases h : c = 35
  · subst h; simp
  · by_cases h2 : c = 48 ∨ c = 49
    · simp [h, h2]
    · simp [h, h2]

theorem clean_length (l : List UInt8) : (clean l).length = slen l := by
  rw [clean, List.length_take]
  have := slen_le l
  omega

theorem clean_idem : ∀ l, clean (clean l) = clean l
  | [] => rfl
  | c :: l => by
    rw [clean_cons]
    split
    · rfl
    · split
      · next h1 h2 => rw [clean_cons, if_neg h1, if_pos h2, clean_idem l]
      · rfl

/-- In a stream there are bits, and at its end, perhaps, the tail. -/
theorem clean_get : ∀ (l : List UInt8) (i : Nat) (h : i < (clean l).length), bitB (clean l)[i] = true ∨ ((clean l)[i] = 35 ∧ i + 1 = (clean l).length)
  | [], i, h => by simp [clean_nil] at h
  | c :: l, i, h => by
    have hc := clean_cons c l
    by_cases h1 : c = 35
    · rw [if_pos h1] at hc
      simp only [hc] at h ⊢
      right
      have : i = 0 := by simpa using h
      subst this
      simp
    · rw [if_neg h1] at hc
      by_cases h2 : bitB c = true
      · rw [if_pos h2] at hc
        simp only [hc] at h ⊢
        cases i with
        | zero => left; simpa using h2
        | succ i =>
          have := clean_get l i (by simpa using h)
          simpa using this
      · rw [if_neg h2] at hc
        rw [hc] at h
        simp at h

theorem clean_tail : ∀ (l r : List UInt8), clean (l ++ 35 :: r) = clean (l ++ [35])
  | [], r => by simp [clean_cons]
  | c :: l, r => by
    rw [List.cons_append, List.cons_append, clean_cons, clean_cons, clean_tail l r]

theorem whole_clean (l : List UInt8) : wholeB (clean l) = ((clean l).getLast? == some 35) := by
  have h : slen (clean l) = (clean l).length := by rw [← clean_length, clean_idem]
  rw [wholeB, h]; simp

/-- What is over stays; what is not goes on. -/
theorem clean_append : ∀ (l m : List UInt8), wholeB (clean l) = false → clean (clean l ++ m) = clean l ++ clean m
  | [], m, _ => rfl
  | c :: l, m, h => by
    rw [clean_cons] at h ⊢
    by_cases h1 : c = 35
    · rw [if_pos h1] at h; exact absurd h (by decide)
    · rw [if_neg h1] at h ⊢
      by_cases h2 : bitB c = true
      · rw [if_pos h2] at h ⊢
        rw [List.cons_append, clean_cons, if_neg h1, if_pos h2, List.cons_append, List.cons.injEq]
        refine ⟨rfl, clean_append l m ?_⟩
        have e : wholeB (c :: clean l) = wholeB (clean (c :: l)) := by rw [clean_cons, if_neg h1, if_pos h2]
        rw [e, whole_clean, clean_cons, if_neg h1, if_pos h2] at h
        rw [whole_clean]
        cases hl : clean l with
        | nil => rfl
        | cons d t => rw [hl, List.getLast?_cons_cons] at h; exact h
      · rw [if_neg h2]; rfl

theorem clean_whole_append : ∀ (l m : List UInt8), wholeB (clean l) = true → clean (clean l ++ m) = clean l
  | [], m, h => absurd h (by decide)
  | c :: l, m, h => by
    rw [clean_cons] at h ⊢
    by_cases h1 : c = 35
    · rw [if_pos h1, List.cons_append, clean_cons, if_pos rfl]
    · rw [if_neg h1] at h ⊢
      by_cases h2 : bitB c = true
      · rw [if_pos h2] at h ⊢
        rw [List.cons_append, clean_cons, if_neg h1, if_pos h2, List.cons.injEq]
        refine ⟨rfl, clean_whole_append l m ?_⟩
        have e : wholeB (c :: clean l) = wholeB (clean (c :: l)) := by rw [clean_cons, if_neg h1, if_pos h2]
        rw [e, whole_clean, clean_cons, if_neg h1, if_pos h2] at h
        rw [whole_clean]
        cases hl : clean l with
        | nil =>
          rw [hl] at h
          simp at h
          exact absurd h h1
        | cons d t => rw [hl, List.getLast?_cons_cons] at h; exact h
      · rw [if_neg h2] at h; exact absurd h (by decide)

end Plait

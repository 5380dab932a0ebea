/-
  Plain mathematics of symbols, on: the front that texts have in common.
-/
import Derived.Test.YtfpbijcgbknklaaMath
namespace Plait

theorem common_nil_left (m : List UInt8) : common [] m = [] := by simp [common]
theorem common_nil_right (l : List UInt8) : common l [] = [] := by cases l <;> simp [common, comm]
theorem common_cons (a b : UInt8) (l m : List UInt8) : common (a :: l) (b :: m) = if a = b then a :: common l m else [] := by
  unfold common
  simp only [comm]
  split <;> simp

theorem common_symm : ∀ l m, common l m = common m l
  | [], m => by rw [common_nil_left, common_nil_right]
  | a :: l, [] => by rw [common_nil_left, common_nil_right]
  | a :: l, b :: m => by
    rw [common_cons, common_cons, common_symm l m]
    by_cases h : a = b
    · subst h; rfl
    · rw [if_neg h, if_neg (Ne.symm h)]

theorem common_self : ∀ l, common l l = l
  | [] => common_nil_left []
  | a :: l => by rw [common_cons, if_pos rfl, common_self l]

theorem common_assoc : ∀ a b c, common (common a b) c = common a (common b c)
  | [], b, c => by simp [common_nil_left]
  | x :: a, [], c => by simp [common_nil_left, common_nil_right]
  | x :: a, y :: b, [] => by simp [common_nil_right]
  | x :: a, y :: b, z :: c => by
    have ih := common_assoc a b c
    rw [common_cons x y, common_cons y z]
    by_cases h : x = y
    · subst h
      rw [if_pos rfl, common_cons]
      by_cases h2 : x = z
      · subst h2
        rw [if_pos rfl, if_pos rfl, common_cons, if_pos rfl, ih]
      · rw [if_neg h2, if_neg h2, common_nil_right]
    · rw [if_neg h, common_nil_left]
      by_cases h2 : y = z
      · rw [if_pos h2, common_cons, if_neg h]
      · rw [if_neg h2, common_nil_right]

theorem common_front : ∀ l m, frontB (common l m) l = true
  | [], m => by rw [common_nil_left]; rfl
  | a :: l, [] => by rw [common_nil_right]; rfl
  | a :: l, b :: m => by
    rw [common_cons]
    split
    · have := common_front l m
      simp [frontB] at this ⊢
      exact this
    · rfl

theorem common_front_right (l m : List UInt8) : frontB (common l m) m = true := by
  rw [common_symm]; exact common_front m l

theorem common_prefix : ∀ k l m : List UInt8, common (k ++ l) (k ++ m) = k ++ common l m
  | [], l, m => rfl
  | a :: k, l, m => by
    rw [List.cons_append, List.cons_append, common_cons, if_pos rfl, common_prefix k l m, List.cons_append]

theorem common_length (l m : List UInt8) : (common l m).length = comm l m := by
  rw [common, List.length_take]
  have := comm_le_left l m
  omega

theorem comm_next : ∀ (l m : List UInt8) (h1 : comm l m < l.length) (h2 : comm l m < m.length), l[comm l m] ≠ m[comm l m]
  | [], m, h1, _ => by simp at h1
  | a :: l, [], _, h2 => by simp at h2
  | a :: l, b :: m, h1, h2 => by
    by_cases h : a = b
    · subst h
      have e : comm (a :: l) (a :: m) = comm l m + 1 := by simp [comm]
      simp only [e, List.getElem_cons_succ]
      exact comm_next l m (by simp [comm] at h1; exact h1) (by simp [comm] at h2; exact h2)
    · have e : comm (a :: l) (b :: m) = 0 := by simp [comm, h]
      simp only [e, List.getElem_cons_zero]
      exact h

end Plait

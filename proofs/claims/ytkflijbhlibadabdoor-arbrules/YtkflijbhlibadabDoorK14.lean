/-
  Plain mathematics of what a node takes, second part: the ten ways of ArbRules.
-/
import Derived.Test.YtkflijbhlibadabDoorK9
namespace Plait

theorem comp_far {c : Cf} {r s : Int} {x : Sd} (h : 2 ≤ x.F) : compA c r s x = rightA c r s x.O := compA_is (by unfold compB; simp [h])
theorem comp_near {c : Cf} {r s : Int} {x : Sd} (h : x.F = 1) (hs : s < c.N) : compA c r s x = (zeroF, false) := compA_not (by unfold compB; simp [h]; omega)
theorem comp_zero {c : Cf} {r s : Int} {x : Sd} (h : x.F = 0) : compA c r s x = (zeroF, false) := compA_not (by unfold compB; simp [h])

/-- Both compared copies are Right, and the same. -/
theorem rule_same {c : Cf} {r s : Int} {a b : Sd} {p : Fr} (ha : compA c r s a = (p, true)) (hb : (compA c r s b).2 = true) (ho : a.O = b.O) : takeA c r s a b = (p, true) := by
  unfold takeA; rw [ha, if_pos rfl, if_pos hb, if_pos ho]
/-- Both are Right, and are not the same. -/
theorem rule_other {c : Cf} {r s : Int} {a b : Sd} (ha : (compA c r s a).2 = true) (hb : (compA c r s b).2 = true) (ho : a.O ≠ b.O) : takeA c r s a b = (zeroF, false) := by
  unfold takeA; rw [if_pos ha, if_pos hb, if_neg ho]
/-- Just the first one is. -/
theorem rule_first {c : Cf} {r s : Int} {a b : Sd} {p : Fr} (ha : compA c r s a = (p, true)) (hb : compA c r s b = (zeroF, false)) : takeA c r s a b = (p, true) := by
  unfold takeA; rw [ha, hb]; simp
/-- Just the second one is. -/
theorem rule_second {c : Cf} {r s : Int} {a b : Sd} {p : Fr} (ha : compA c r s a = (zeroF, false)) (hb : compA c r s b = (p, true)) : takeA c r s a b = (p, true) := by
  unfold takeA; rw [ha, hb]; simp
/-- None is: the first neighbour's own copy, the second one's, none. -/
theorem rule_lone1 {c : Cf} {r s : Int} {a b : Sd} {p : Fr} (ha : compA c r s a = (zeroF, false)) (hb : compA c r s b = (zeroF, false)) (hs : s < c.N) (hl : loneA c r s a = (p, true)) : takeA c r s a b = (p, true) := by
  have hn : ¬ c.N ≤ s := by omega
  unfold takeA; rw [ha, hb, hl]; simp [hn]
theorem rule_lone2 {c : Cf} {r s : Int} {a b : Sd} {p : Fr} (ha : compA c r s a = (zeroF, false)) (hb : compA c r s b = (zeroF, false)) (hs : s < c.N) (hl : loneA c r s a = (zeroF, false)) (hm : loneA c r s b = (p, true)) : takeA c r s a b = (p, true) := by
  have hn : ¬ c.N ≤ s := by omega
  unfold takeA; rw [ha, hb, hl, hm]; simp [hn]
theorem rule_none {c : Cf} {r s : Int} {a b : Sd} (ha : compA c r s a = (zeroF, false)) (hb : compA c r s b = (zeroF, false)) (hl : loneA c r s a = (zeroF, false)) (hm : loneA c r s b = (zeroF, false)) : takeA c r s a b = (zeroF, false) := by
  unfold takeA; rw [ha, hb, hl, hm]; simp

/-- What the ten ways of ArbRules lay, and what is taken: s, t the frames' texts, q the first one cut. -/
def ruleA (N : Int) (s t q : List UInt8) (k : Nat) : Sd × Sd :=
  if k = 0 then (⟨[], [], s, 3⟩, ⟨[], [], s, N - 3⟩)
  else if k = 1 then (⟨[], [], s, 3⟩, ⟨[], [], t, N - 3⟩)
  else if k = 2 then (⟨[], [], s, 3⟩, ⟨[], [], q, N - 3⟩)
  else if k = 3 then (⟨[], [], q, 3⟩, ⟨[], [], s, N - 3⟩)
  else if k = 4 then (⟨s, [], s, 1⟩, ⟨[], [], q, N - 1⟩)
  else if k = 5 then (⟨t, [], t, 1⟩, ⟨[], [], s, N - 1⟩)
  else if k = 6 then (⟨[], [], [], N - 1⟩, ⟨s, [], s, 1⟩)
  else if k = 7 then (⟨s, s, [], 2⟩, ⟨s, s, q, N - 2⟩)
  else if k = 8 then (⟨q, [], q, 1⟩, ⟨[], [], [], N - 1⟩)
  else (⟨[], [], s, 0⟩, ⟨[], [], s, 0⟩)
def ruleP (x : Fr) (s t : List UInt8) (k : Nat) : Fr × Bool := if k = 7 ∨ k = 8 ∨ k = 9 ∨ (k = 1 ∧ s ≠ t) then (zeroF, false) else (x, true)

theorem rule_ten {c : Cf} {r : Int} {x y : Fr} (hc : c.Ok) (hx : x.Ok c) (hy : y.Ok c) (rx : x.R = wireI c r) (ry : y.R = wireI c r) (sy : y.S = x.S) (hs : x.S < c.N) (k : Nat) (hk : k < 10) :
    takeA c r x.S (ruleA c.N (textF x) (textF y) ((textF x).take ((textF x).length - 1)) k).1 (ruleA c.N (textF x) (textF y) ((textF x).take ((textF x).length - 1)) k).2 = ruleP x (textF x) (textF y) k := by
  have n6 := hc.n6
  have R1 : rightA c r x.S (textF x) = (x, true) := rightA_text hc hx rx rfl
  have R2 : rightA c r x.S (textF y) = (y, true) := rightA_text hc hy ry sy
  have hpos : 0 < (textF x).length := by rw [textF_length]; omega
  have R3 : rightA c r x.S ((textF x).take ((textF x).length - 1)) = (zeroF, false) := rightA_cut c r x.S x _ (by omega)
  have R4 : rightA c r x.S [] = (zeroF, false) := rightA_nil c r x.S
  generalize textF x = s at *
  generalize textF y = t at *
  generalize s.take (s.length - 1) = q at *
  have far : ∀ (D S O : List UInt8) (F : Int), 2 ≤ F → compA c r x.S ⟨D, S, O, F⟩ = rightA c r x.S O := fun D S O F h => comp_far h
  have near : ∀ (D S O : List UInt8), compA c r x.S ⟨D, S, O, 1⟩ = (zeroF, false) := fun D S O => comp_near rfl hs
  have lone : ∀ (D S O : List UInt8), loneA c r x.S ⟨D, S, O, 1⟩ = rightA c r x.S D := fun D S O => loneA_is rfl
  have lnot : ∀ (D S O : List UInt8) (F : Int), F ≠ 1 → loneA c r x.S ⟨D, S, O, F⟩ = (zeroF, false) := fun D S O F h => loneA_not h
  rcases (by omega : k = 0 ∨ k = 1 ∨ k = 2 ∨ k = 3 ∨ k = 4 ∨ k = 5 ∨ k = 6 ∨ k = 7 ∨ k = 8 ∨ k = 9) with rfl | rfl | rfl | rfl | rfl | rfl | rfl | rfl | rfl | rfl
  · exact rule_same ((far _ _ _ _ (by omega)).trans R1) (by rw [show (ruleA c.N s t q 0).2 = ⟨[], [], s, c.N - 3⟩ from rfl, far _ _ _ _ (by omega), R1]) rfl
  · by_cases e : s = t
    · have hp : ruleP x s t 1 = (x, true) := by simp [ruleP, e]
      rw [hp]
      exact rule_same ((far _ _ _ _ (by omega)).trans R1) (by rw [show (ruleA c.N s t q 1).2 = ⟨[], [], t, c.N - 3⟩ from rfl, far _ _ _ _ (by omega), R2]) e
    · have hp : ruleP x s t 1 = (zeroF, false) := by simp [ruleP, e]
      rw [hp]
      exact rule_other (by rw [show (ruleA c.N s t q 1).1 = ⟨[], [], s, 3⟩ from rfl, far _ _ _ _ (by omega), R1]) (by rw [show (ruleA c.N s t q 1).2 = ⟨[], [], t, c.N - 3⟩ from rfl, far _ _ _ _ (by omega), R2]) e
  · exact rule_first ((far _ _ _ _ (by omega)).trans R1) ((far _ _ _ _ (by omega)).trans R3)
  · exact rule_second ((far _ _ _ _ (by omega)).trans R3) ((far _ _ _ _ (by omega)).trans R1)
  · exact rule_lone1 (near _ _ _) ((far _ _ _ _ (by omega)).trans R3) hs ((lone _ _ _).trans R1)
  · exact rule_second (near _ _ _) ((far _ _ _ _ (by omega)).trans R1)
  · exact rule_lone2 ((far _ _ _ _ (by omega)).trans R4) (near _ _ _) hs (lnot _ _ _ _ (by omega)) ((lone _ _ _).trans R1)
  · exact rule_none ((far _ _ _ _ (by omega)).trans R4) ((far _ _ _ _ (by omega)).trans R3) (lnot _ _ _ _ (by omega)) (lnot _ _ _ _ (by omega))
  · exact rule_none (near _ _ _) ((far _ _ _ _ (by omega)).trans R4) ((lone _ _ _).trans R3) (lnot _ _ _ _ (by omega))
  · exact rule_none (comp_zero rfl) (comp_zero rfl) (lnot _ _ _ _ (by omega)) (lnot _ _ _ _ (by omega))

end Plait

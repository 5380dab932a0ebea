/-
  Plain mathematics of owners and voters: together they are all nodes, each once; voters rise.
-/
import Derived.Test.YtpbnpghdhjminaaDoorConf1
namespace Plait

theorem owners_nodup (c : Cf) (hc : c.Ok) (s : Int) : (owners c s).Nodup := by
  unfold owners
  split
  · simp
  · split
    · rename_i h
      have h1 := (nodeB_iff c _).1 h
      have h6 := hc.n6
      rw [List.nodup_cons]
      refine ⟨?_, by simp⟩
      rw [List.mem_singleton]
      intro e
      by_cases hl : pairAt c s + 1 = c.N
      · rw [hl, Int.emod_self] at e; omega
      · rw [Int.emod_eq_of_lt (by omega) (by omega)] at e; omega
    · simp

theorem countP_succ (l : List Int) (k : Int) : l.countP (fun a => decide (a < k + 1)) = l.countP (fun a => decide (a < k)) + l.count k := by
  induction l with
  | nil => simp
  | cons x l ih =>
    rw [List.countP_cons, List.countP_cons, List.count_cons, ih]
    by_cases h1 : x < k
    · have h2 : x < k + 1 := by omega
      have h3 : (x == k) = false := by rw [beq_eq_false_iff_ne]; omega
      simp [h1, h2, h3]; omega
    · by_cases h2 : x = k
      · subst h2
        have h4 : x < x + 1 := by omega
        simp only [h4, decide_true, if_true, h1, decide_false, Bool.false_eq_true, if_false, beq_self_eq_true]
        omega
      · have h3 : (x == k) = false := by simp [h2]
        have h4 : ¬ x < k + 1 := by omega
        simp [h1, h3, h4]

theorem votersTo_count (c : Cf) (hc : c.Ok) (s : Int) : ∀ k : Nat, (votersTo c s k).length + (owners c s).countP (fun a => decide (a < (k : Int))) = k
  | 0 => by
    have h : (owners c s).countP (fun a => decide (a < ((0 : Nat) : Int))) = 0 := by
      rw [List.countP_eq_zero]
      intro a ha
      have := (owners_in c hc s a ha).1
      simp; omega
    rw [h]
    simp [votersTo]
  | k + 1 => by
    have ih := votersTo_count c hc s k
    rw [votersTo_succ, show ((k + 1 : Nat) : Int) = (k : Int) + 1 by omega, countP_succ]
    cases hcon : (owners c s).contains (k : Int)
    · have h0 : (owners c s).count (k : Int) = 0 := by
        rw [List.count_eq_zero]
        intro hm
        rw [List.contains_iff_mem.2 hm] at hcon
        cases hcon
      simp [h0]; omega
    · have h1 : (owners c s).count (k : Int) = 1 := by
        rw [List.contains_iff_mem] at hcon
        have h2 := List.nodup_iff_count.1 (owners_nodup c hc s) (k : Int)
        have h3 := List.count_pos_iff.2 hcon
        omega
      rw [if_pos rfl, h1]; omega

theorem parts_len (c : Cf) (hc : c.Ok) (s : Int) : ((owners c s).length : Int) + ((voters c s).length : Int) = c.N := by
  have h := votersTo_count c hc s c.N.toNat
  have h6 := hc.n6
  have hall : (owners c s).countP (fun a => decide (a < (c.N.toNat : Int))) = (owners c s).length := by
    rw [List.countP_eq_length]
    intro a ha
    have := (owners_in c hc s a ha).2
    simp; omega
  rw [hall] at h
  unfold voters
  omega

theorem parts_in (c : Cf) (s : Int) (k : Nat) (hk : (k : Int) < c.N) : inB (voters c s) (k : Int) = !inB (owners c s) (k : Int) := by
  unfold inB
  cases hcon : (owners c s).contains (k : Int)
  · rw [Bool.not_false, List.contains_iff_mem]
    unfold voters votersTo
    rw [List.mem_filter, hcon]
    refine ⟨?_, rfl⟩
    rw [List.mem_map]
    exact ⟨k, by rw [List.mem_range]; omega, rfl⟩
  · rw [Bool.not_true, Bool.eq_false_iff]
    intro h
    rw [List.contains_iff_mem] at h
    unfold voters votersTo at h
    rw [List.mem_filter, hcon] at h
    exact absurd h.2 (by decide)

theorem voters_rise (c : Cf) (s : Int) : (voters c s).Pairwise (· < ·) := by
  unfold voters votersTo
  apply List.Pairwise.filter
  rw [List.pairwise_map]
  exact List.pairwise_lt_range.imp (fun h => by omega)

theorem voters_step (c : Cf) (s : Int) (k : Nat) (h : k + 1 < (voters c s).length) : (voters c s)[k] < (voters c s)[k + 1] :=
  List.pairwise_iff_getElem.1 (voters_rise c s) k (k + 1) (by omega) h (by omega)

end Plait

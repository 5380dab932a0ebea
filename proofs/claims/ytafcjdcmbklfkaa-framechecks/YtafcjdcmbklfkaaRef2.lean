/-
  Contracts of the reference's symbols, the rest: Front, Whole, Turn, Bits, Num.
-/
import Derived.Test.YtafcjdcmbklfkaaRef1
namespace Go.Proofs.Ytafcjdcmbklfkaa
open Go.RowKit Plait
set_option linter.unusedVariables false

theorem byte_eq (c : UInt8) (n : Nat) (h : n < 256) : ((c.toNat : Int) == (n : Int)) = (c == UInt8.ofNat n) := by
  rw [Bool.eq_iff_iff, beq_iff_eq, beq_iff_eq]
  constructor
  · intro e
    apply UInt8.toNat_inj.1
    simp [UInt8.toNat_ofNat', Nat.mod_eq_of_lt h]
    omega
  · rintro rfl
    simp [UInt8.toNat_ofNat', Nat.mod_eq_of_lt h]

theorem front_take (l m : List UInt8) (h : l.length ≤ m.length) : frontB l m = (m.take l.length == l) := by
  unfold frontB
  rw [Bool.eq_iff_iff, List.isPrefixOf_iff_prefix, beq_iff_eq, List.prefix_iff_eq_take]
  exact eq_comm

theorem front_long (l m : List UInt8) (h : m.length < l.length) : frontB l m = false := by
  unfold frontB
  rw [Bool.eq_false_iff]
  intro e
  have := (List.isPrefixOf_iff_prefix.1 e).length_le
  omega

theorem clean_eq (l : List UInt8) : (clean l == l) = (slen l == l.length) := by
  have h := slen_le l
  rw [Bool.eq_iff_iff, beq_iff_eq, beq_iff_eq, clean]
  constructor
  · intro e
    have := congrArg List.length e
    rw [List.length_take] at this
    omega
  · intro e
    rw [e, List.take_length]

theorem last_get (l : List UInt8) (h : 0 < l.length) : l.getLast? = some (l[l.length - 1]) := by
  rw [List.getLast?_eq_getElem?, List.getElem?_eq_getElem]

theorem whole_last (l : List UInt8) (hpos : 0 < l.length) (h1 : slen l = l.length) : wholeB l = (l[l.length - 1]'(Nat.sub_lt hpos (by decide)) == 35) := by
  rw [wholeB, last_get l hpos, h1]; simp

theorem rwhole_any (l : List UInt8) (w : World) (hs : l.length ≤ 1099511627776) :
    Calls Try.prog 31 #[.string ⟨l.toArray⟩] w fun e w' => e = .returned (.bool (wholeB l)) ∧ w = w' := by
  by_cases h0 : l = []
  · subst h0
    go_enter Try.func31, Try.ntmps31
    go_wp2
    go_ret
    exact ⟨rfl, rfl⟩
  have hpos : 0 < l.length := List.length_pos_iff.2 h0
  have d0 : l.isEmpty = false := by simpa using h0
  by_cases h1 : slen l = l.length
  · have d1 : (clean l == l) = true := by rw [clean_eq]; simpa using h1
    have HF := Lib.hid (whole_last l hpos h1)
    clear h1
    go_enter Try.func31, Try.ntmps31
    go_wp2_with fail
    refine (rclean_any l _ hs).mono ?_
    rintro e w' ⟨rfl, rfl⟩
    go_wp2
    go_ret
    exact ⟨ret_bool (by rw [HF.out]; exact (byte_eq _ 35 (by decide))), rfl⟩
  · have d1 : (clean l == l) = false := by rw [clean_eq]; simpa using h1
    have HF := Lib.hid (show wholeB l = false by rw [wholeB]; simp [h1])
    clear h1
    go_enter Try.func31, Try.ntmps31
    go_wp2_with fail
    refine (rclean_any l _ hs).mono ?_
    rintro e w' ⟨rfl, rfl⟩
    go_wp2
    go_ret
    exact ⟨ret_bool HF.out.symm, rfl⟩

theorem rturn_in (l : List UInt8) (k : Nat) (h : k < l.length) : l.take k ++ [other l[k]] ++ l.drop (k + 1) = l.set k (other l[k]) := by
  rw [List.set_eq_take_append_cons_drop, if_pos h]
  simp

theorem drop_take_one (l : List UInt8) (k : Nat) (h : k < l.length) : (l.drop k).take 1 = [l[k]] := by
  rw [List.drop_eq_getElem_cons h]; rfl

theorem rturn_fin (l : List UInt8) (k : Nat) (d c : UInt8) (h : other c = d) : l.take k ++ d :: (l.drop (k + 1)).take (l.length - (k + 1)) = l.take k ++ [other c] ++ l.drop (k + 1) := by
  have e : (l.drop (k + 1)).take (l.length - (k + 1)) = l.drop (k + 1) := List.take_of_length_le (by rw [List.length_drop]; exact Nat.le_refl _)
  rw [e, h]; simp

set_option maxHeartbeats 800000 in
theorem rturn_core (l : List UInt8) (k : Nat) (c : UInt8) (w : World) (hs : l.length ≤ 1099511627776) (hk : k < l.length) (hd : (l.drop k).take 1 = [c]) :
    Calls Try.prog 26 #[.string ⟨l.toArray⟩, .int .i64 k] w fun e w' => e = .returned (.string ⟨(l.take k ++ [other c] ++ l.drop (k + 1)).toArray⟩) ∧ Below w.heap.size w w' := by
  have e1 : decide ((k : Int) < 0) = false := by simp
  have e2 : decide (l.length ≤ k) = false := by simp; omega
  by_cases h1 : c = 48
  · subst h1
    go_enter Try.func26, Try.ntmps26
    go_wp2
    go_quiet (fail)
    go_wp2
    go_ret
    exact ⟨ret_str (rturn_fin l k _ _ rfl), below_drewN (Below.refl _ _) _⟩
  by_cases h2 : c = 49
  · subst h2
    go_enter Try.func26, Try.ntmps26
    go_wp2
    go_quiet (fail)
    go_wp2
    go_ret
    exact ⟨ret_str (rturn_fin l k _ _ rfl), below_drewN (Below.refl _ _) _⟩
  by_cases h3 : c = 35
  · subst h3
    go_enter Try.func26, Try.ntmps26
    go_wp2
    go_quiet (fail)
    go_wp2
    go_ret
    exact ⟨ret_str (rturn_fin l k _ _ rfl), below_drewN (Below.refl _ _) _⟩
  have d1 : (c == 48) = false := by simpa using h1
  have d2 : (c == 49) = false := by simpa using h2
  have d3 : (c == 35) = false := by simpa using h3
  have HF := Lib.hid (show other c = c by simp [other, h1, h2, h3])
  clear h1 h2 h3
  go_enter Try.func26, Try.ntmps26
  go_wp2
  go_quiet (fail)
  go_wp2
  go_ret
  exact ⟨ret_str (rturn_fin l k _ _ HF.out), below_drewN (Below.refl _ _) _⟩

theorem rturn_any (l : List UInt8) (i : Int) (w : World) (hs : l.length ≤ 1099511627776) :
    Calls Try.prog 26 #[.string ⟨l.toArray⟩, .int .i64 i] w fun e w' => e = .returned (.string ⟨(turn l i).toArray⟩) ∧ Below w.heap.size w w' := by
  by_cases h0 : i < 0
  · have HF := Lib.hid (turn_out l i (.inl h0))
    go_enter Try.func26, Try.ntmps26
    go_wp2
    go_ret
    exact ⟨ret_str HF.out.symm, Below.refl _ _⟩
  by_cases h1 : (l.length : Int) ≤ i
  · have HF := Lib.hid (turn_out l i (.inr h1))
    go_enter Try.func26, Try.ntmps26
    go_wp2
    go_ret
    exact ⟨ret_str HF.out.symm, Below.refl _ _⟩
  obtain ⟨k, rfl⟩ := Int.eq_ofNat_of_zero_le (by omega : 0 ≤ i)
  have hk : k < l.length := by omega
  refine (rturn_core l k l[k] w hs hk (drop_take_one l k hk)).mono ?_
  rintro e w' ⟨rfl, hb⟩
  exact ⟨ret_str ((turn_in l k hk).trans (rturn_in l k hk).symm).symm, hb⟩

end Go.Proofs.Ytafcjdcmbklfkaa

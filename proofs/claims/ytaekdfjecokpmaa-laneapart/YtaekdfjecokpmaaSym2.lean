/-
  Contracts of package sym: Clean, Common, Front, Whole, Turn: what each call answers, for every text; nothing that was in memory is changed.
-/
import Derived.Test.YtaekdfjecokpmaaSym1
import Derived.BigQuiet
import Derived.Deep.QuietTactic
namespace Go.Proofs.Ytaekdfjecokpmaa
open Go.RowKit Plait
set_option maxRecDepth 100000
set_option linter.unusedVariables false

theorem clone_any (s : ByteArray) (w : World) (hs : s.size ≤ 1099511627776) :
    Calls Try.prog 23 #[.string s] w fun e w' => e = .returned (.string s) ∧ Below w.heap.size w w' := by
  go_enter Try.func23, Try.ntmps23
  go_wp2_with fail
  refine (Try.stringslite_Clone s w (by omega)).mono ?_
  rintro e w' ⟨rfl, hb⟩
  go_wp2
  go_ret
  exact ⟨rfl, hb⟩

theorem clean_any (l : List UInt8) (w : World) (hs : l.length ≤ 1099511627776) :
    Calls Try.prog 34 #[.string ⟨l.toArray⟩] w fun e w' => e = .returned (.string ⟨(clean l).toArray⟩) ∧ Below w.heap.size w w' := by
  have hle := slen_le l
  go_enter Try.func34, Try.ntmps34
  go_wp2_with fail
  refine (streamLen_any l _ (by omega)).mono ?_
  rintro e w' ⟨rfl, hb⟩
  go_wp2_with fail
  refine (clone_any _ _ (by rw [size_mk]; simp; omega)).mono ?_
  rintro e w2 ⟨rfl, hb2⟩
  go_wp2
  go_ret
  exact ⟨rfl, hb.trans (hb2.mono hb.size)⟩

theorem ret_str {a b : List UInt8} (h : a = b) : Ending.returned (.string ⟨a.toArray⟩) = .returned (.string ⟨b.toArray⟩) := by rw [h]
/-- The loop of Common: all bytes ahead are the same. -/
def ComAt (l m : List UInt8) (n : Value) : Prop :=
  ∃ k : Nat, k ≤ l.length ∧ k ≤ m.length ∧ l.take k = m.take k ∧ n = .int .i64 k

theorem suffix_tail (l : List UInt8) : Lib.hasSuffix l [35] = (l.getLast? == some 35) := by
  unfold Lib.hasSuffix
  rcases List.eq_nil_or_concat l with rfl | ⟨m, c, rfl⟩
  · rfl
  · simp [List.isSuffixOf, List.isPrefixOf]
    exact BEq.comm

theorem whole_any (l : List UInt8) (w : World) (hs : l.length ≤ 1099511627776) :
    Calls Try.prog 30 #[.string ⟨l.toArray⟩] w fun e w' => e = .returned (.bool (wholeB l)) ∧ Below w.heap.size w w' := by
  by_cases h : Lib.hasSuffix l [35] = true
  · go_enter Try.func30, Try.ntmps30
    go_wp2_with fail
    refine (Try.strings_HasSuffix _ _ _ (by rw [size_mk]; omega)).mono ?_
    rintro e w2 ⟨rfl, rfl⟩
    go_wp2_with fail
    refine (streamLen_any l _ (by omega)).mono ?_
    rintro e w3 ⟨rfl, hb⟩
    go_wp2
    go_ret
    exact ⟨ret_bool (by rw [suffix_tail] at h; rw [wholeB, h, Bool.true_and, Bool.eq_iff_iff, beq_iff_eq, beq_iff_eq]; omega), hb⟩
  · rw [Bool.not_eq_true] at h
    go_enter Try.func30, Try.ntmps30
    go_wp2_with fail
    refine (Try.strings_HasSuffix _ _ _ (by rw [size_mk]; omega)).mono ?_
    rintro e w2 ⟨rfl, rfl⟩
    go_wp2
    go_ret
    exact ⟨ret_bool (by rw [suffix_tail] at h; rw [wholeB, h]; rfl), Below.refl _ _⟩

end Go.Proofs.Ytaekdfjecokpmaa

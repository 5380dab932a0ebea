/-
  Contracts of plaitingref3: what the document's own chapter 3 answers of networks.
-/
import Derived.Test.YtlchfknfmjddiaaConf2
namespace Go.Proofs.Ytlchfknfmjddiaa
open Go.RowKit Plait
set_option linter.unusedVariables false

/-- The loop of In. -/
def InAt (zs : List Int) (x : Int) (i : Value) : Prop := ∃ k : Nat, k ≤ zs.length ∧ i = .int .i64 k ∧ inB (zs.take k) x = false

theorem in_step (zs : List Int) (x : Int) (k : Nat) (h : k < zs.length) (ha : inB (zs.take k) x = false) (hn : zs[k] ≠ x) : inB (zs.take (k + 1)) x = false := by
  unfold inB at *
  rw [List.take_succ_eq_append_getElem h, List.contains_eq_any_beq, List.any_append, ← List.contains_eq_any_beq, ha]
  simp
  exact fun e => hn e.symm
theorem in_hit (zs : List Int) (x : Int) (k : Nat) (h : k < zs.length) (hn : zs[k] = x) : inB zs x = true := by
  unfold inB
  rw [List.contains_iff_mem, ← hn]
  exact List.getElem_mem h
theorem in_end (zs : List Int) (x : Int) (k : Nat) (h : ¬ k < zs.length) (ha : inB (zs.take k) x = false) : inB zs x = false := by
  rw [List.take_of_length_le (by omega)] at ha
  exact ha

set_option maxHeartbeats 800000 in
theorem rin_any (a : Option Addr) (zs : List Int) (cap : Nat) (x : Int) (w : World) (hrow : Row w a zs) :
    Calls Try.prog 22 #[.slice a zs.length cap, .int .i64 x] w fun e w' => e = .returned (.bool (inB zs x)) ∧ w = w' := by
  have hlen := hrow.1
  go_enter Try.func22, Try.ntmps22
  go_wp2
  go_loop [5] (fun i => InAt zs x i) (fun i => zs.length - (intOf i).toNat)
  case atStart => exact ⟨0, Nat.zero_le _, rfl, by simp [inB]⟩
  case round =>
    obtain ⟨k, hk, rfl, ha⟩ := hrel
    have HA := Lib.hid ha
    clear ha
    by_cases hlt : k < zs.length
    · have d1 : decide (k < zs.length) = true := by simpa using hlt
      obtain ⟨b, off, rfl, hbl, hcell, hz1, hz2⟩ := hrow.get k hlt
      by_cases hx : zs[k] = x
      · have d2 : (zs[k] == x) = true := by simp [hx]
        have HF := Lib.hid (in_hit zs x k hlt hx)
        clear hx
        go_wp2
        go_ret
        exact ⟨ret_bool HF.out.symm, rfl⟩
      · have d2 : (zs[k] == x) = false := by simp [hx]
        have HS := Lib.hid (in_step zs x k hlt HA.out hx)
        clear hx
        go_wp2
        go_round
        case rel => exact ⟨k + 1, by omega, by go_num, HS.out⟩
        case measure => simp [intOf]; omega
    · have d1 : decide (k < zs.length) = false := by simpa using hlt
      have HF := Lib.hid (in_end zs x k hlt HA.out)
      go_wp2
      go_ret
      exact ⟨ret_bool HF.out.symm, rfl⟩

/-- The loop of Same. -/
def SameAt (xs ys : List Int) (w : World) (i : Value) (w' : World) : Prop := ∃ k : Nat, k ≤ xs.length ∧ i = .int .i64 k ∧ xs.take k = ys.take k ∧ Below w.heap.size w w'

theorem same_step (xs ys : List Int) (k : Nat) (h : k < xs.length) (h2 : k < ys.length) (ha : xs.take k = ys.take k) (e : xs[k] = ys[k]) : xs.take (k + 1) = ys.take (k + 1) := by
  rw [List.take_succ_eq_append_getElem h, List.take_succ_eq_append_getElem h2, ha, e]
theorem same_no (xs ys : List Int) (k : Nat) (h : k < xs.length) (h2 : k < ys.length) (e : xs[k] ≠ ys[k]) : (xs == ys) = false := by
  rw [beq_eq_false_iff_ne]
  rintro rfl
  exact e rfl
theorem same_end (xs ys : List Int) (k : Nat) (h : ¬ k < xs.length) (hl : xs.length = ys.length) (ha : xs.take k = ys.take k) : (xs == ys) = true := by
  rw [List.take_of_length_le (by omega), List.take_of_length_le (by omega)] at ha
  simp [ha]

set_option maxHeartbeats 800000 in
theorem rsame_any (a b : Option Addr) (xs ys : List Int) (ca cb : Nat) (w : World) (hx : Row w a xs) (hy : Row w b ys) :
    Calls Try.prog 20 #[.slice a xs.length ca, .slice b ys.length cb] w fun e w' => e = .returned (.bool (xs == ys)) ∧ Below w.heap.size w w' := by
  have hlx := hx.1
  have hly := hy.1
  by_cases hl : xs.length = ys.length
  · have HL := Lib.hid hl
    have d0 : ((xs.length : Int) != (ys.length : Int)) = false := by simp [hl]
    clear hl
    go_enter Try.func20, Try.ntmps20
    go_wp2
    go_loopw [5] (fun i w' => SameAt xs ys w i w') (fun i _ => xs.length - (intOf i).toNat)
    case atStart => exact ⟨0, Nat.zero_le _, rfl, by simp, Below.refl _ _⟩
    case round =>
      obtain ⟨k, hk, rfl, ha, hB⟩ := hrel
      have HA := Lib.hid ha
      clear ha
      by_cases hlt : k < xs.length
      · have d1 : decide (k < xs.length) = true := by simpa using hlt
        have hlt2 : k < ys.length := by have := HL.out; omega
        obtain ⟨b1, o1, rfl, hb1, hc1, _, _⟩ := (hx.later hB).get k hlt
        obtain ⟨b2, o2, rfl, hb2, hc2, _, _⟩ := (hy.later hB).get k hlt2
        have g0 : (0 : Int) ≤ (k : Int) := by omega
        have g1 : (k : Int) < (xs.length : Int) := by omega
        have g2 : (k : Int) < (ys.length : Int) := by omega
        by_cases he : xs[k] = ys[k]
        · have d2 : (xs[k] != ys[k]) = false := by simp [he]
          have HS := Lib.hid (same_step xs ys k hlt hlt2 HA.out he)
          clear he
          go_wp2
          go_quiet (fail)
          go_wp2
          go_roundw
          case rel => exact ⟨k + 1, by omega, by go_num, HS.out, below_drewN hB _⟩
          case measure => simp [intOf]; omega
        · have d2 : (xs[k] != ys[k]) = true := by simp [he]
          have HF := Lib.hid (same_no xs ys k hlt hlt2 he)
          clear he
          go_wp2
          go_quiet (fail)
          go_wp2
          go_ret
          exact ⟨ret_bool HF.out.symm, below_drewN hB _⟩
      · have d1 : decide (k < xs.length) = false := by simpa using hlt
        have HF := Lib.hid (same_end xs ys k hlt HL.out HA.out)
        go_wp2
        go_ret
        exact ⟨ret_bool HF.out.symm, hB⟩
  · have d0 : ((xs.length : Int) != (ys.length : Int)) = true := by simp; omega
    have HF := Lib.hid (show (xs == ys) = false by rw [beq_eq_false_iff_ne]; rintro rfl; exact hl rfl)
    clear hl
    go_enter Try.func20, Try.ntmps20
    go_wp2
    go_ret
    exact ⟨ret_bool HF.out.symm, Below.refl _ _⟩

end Go.Proofs.Ytlchfknfmjddiaa

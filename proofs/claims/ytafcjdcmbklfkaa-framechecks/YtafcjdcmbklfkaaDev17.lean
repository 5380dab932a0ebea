/-
  Contracts of package frame, ninth part: Same.
-/
import Derived.Test.YtafcjdcmbklfkaaDev16
namespace Go.Proofs.Ytafcjdcmbklfkaa
open Go.RowKit Plait
set_option linter.unusedVariables false

set_option maxHeartbeats 1600000 in
theorem fEqual_any (a b : Option Addr) (xs ys : List It) (ca cb : Nat) (w : World) (hx : RowT w a xs) (hy : RowT w b ys) :
    Calls Try.prog 54 #[.slice a xs.length ca, .slice b ys.length cb] w fun e w' => e = .returned (.bool (decide (xs = ys))) ∧ Below w.heap.size w w' := by
  have hlx := hx.1
  have hly := hy.1
  by_cases hl : xs.length = ys.length
  · have HL := Lib.hid hl
    have d0 : ((xs.length : Int) != (ys.length : Int)) = false := by simp [hl]
    clear hl
    go_enter Try.func54, Try.ntmps54
    go_wp2
    go_loopw [5, 13] (fun _ i w' => ItemsAt xs ys w i w') (fun _ i _ => xs.length - (intOf i).toNat)
    case atStart => exact ⟨0, Nat.zero_le _, rfl, by simp, Below.refl _ _⟩
    case round =>
      obtain ⟨k, hk, rfl, ha, hB⟩ := hrel
      have HA := Lib.hid ha
      clear ha
      by_cases hlt : k < xs.length
      · have d1 : decide (k < xs.length) = true := by simpa using hlt
        have hlt2 : k < ys.length := by have := HL.out; omega
        obtain ⟨b1, o1, rfl, hb1, hc1, hc2, _, _⟩ := (hx.later hB).get k hlt
        obtain ⟨b2, o2, rfl, hb2, hc3, hc4, _, _⟩ := (hy.later hB).get k hlt2
        have g0 : (0 : Int) ≤ (k : Int) := by omega
        have g1 : (k : Int) < (xs.length : Int) := by omega
        have g2 : (k : Int) < (ys.length : Int) := by omega
        have HS := Lib.hid (fun e => items_step xs ys k hlt hlt2 HA.out e)
        have HN := Lib.hid (fun e => items_no xs ys k hlt hlt2 e)
        generalize xs[k] = x at *
        generalize ys[k] = y at *
        cases e1 : (x.K == y.K)
        · have HF := Lib.hid (HN.out (fun e => by rw [e] at e1; simp at e1))
          go_wp2
          go_quiet (fail)
          go_wp2
          go_ret
          exact ⟨ret_bool HF.out.symm, below_drewN hB _⟩
        · cases e2 : (x.V == y.V)
          · have HF := Lib.hid (HN.out (fun e => by rw [e] at e2; simp at e2))
            go_wp2
            go_quiet (fail)
            go_wp2
            go_ret
            exact ⟨ret_bool HF.out.symm, below_drewN hB _⟩
          · have HF := Lib.hid (HS.out (it_ext x y (eq_of_beq e1) (eq_of_beq e2)))
            go_wp2
            go_quiet (fail)
            go_wp2
            go_roundw
            case rel => exact ⟨k + 1, by omega, by go_num, HF.out, below_drewN hB _⟩
            case measure => simp [intOf]; omega
      · have d1 : decide (k < xs.length) = false := by simpa using hlt
        have HF := Lib.hid (items_end xs ys k hlt HL.out HA.out)
        go_wp2
        go_ret
        exact ⟨ret_bool HF.out.symm, hB⟩
  · have d0 : ((xs.length : Int) != (ys.length : Int)) = true := by simp; omega
    have HF := Lib.hid (show decide (xs = ys) = false by rw [decide_eq_false_iff_not]; rintro rfl; exact hl rfl)
    clear hl
    go_enter Try.func54, Try.ntmps54
    go_wp2
    go_ret
    exact ⟨ret_bool HF.out.symm, Below.refl _ _⟩

set_option maxHeartbeats 3200000 in
theorem fSame_any (f g : Fr) (fa ga : Option Addr) (fc gc : Nat) (w : World) (hf : RowT w fa f.E) (hg : RowT w ga g.E) :
    Calls Try.prog 25 #[.agg #[.int .i64 f.K, .int .i64 f.R, .int .i64 f.S, .int .i64 f.P.K, .int .i64 f.P.V, .slice fa f.E.length fc], .agg #[.int .i64 g.K, .int .i64 g.R, .int .i64 g.S, .int .i64 g.P.K, .int .i64 g.P.V, .slice ga g.E.length gc]] w fun e w' => e = .returned (.bool (decide (f = g))) ∧ Below w.heap.size w w' := by
  have hB : Below w.heap.size w ((w.alloc (.cells #[.int .i64 f.K, .int .i64 f.R, .int .i64 f.S, .int .i64 f.P.K, .int .i64 f.P.V, .slice fa f.E.length fc] 29)).alloc (.cells #[.int .i64 g.K, .int .i64 g.R, .int .i64 g.S, .int .i64 g.P.K, .int .i64 g.P.V, .slice ga g.E.length gc] 29)) := (alloc_below w _).alloc (by simp) _
  by_cases h1 : f.K = g.K
  · have e1 : (f.K == g.K) = true := by simpa using h1
    by_cases h2 : f.R = g.R
    · have e2 : (f.R == g.R) = true := by simpa using h2
      by_cases h3 : f.S = g.S
      · have e3 : (f.S == g.S) = true := by simpa using h3
        by_cases h4 : f.P.K = g.P.K
        · have e4 : (f.P.K == g.P.K) = true := by simpa using h4
          by_cases h5 : f.P.V = g.P.V
          · have e5 : (f.P.V == g.P.V) = true := by simpa using h5
            have HF := Lib.hid (fr_dec f g h1 h2 h3 h4 h5)
            have hK : Blk ((w.alloc (.cells #[.int .i64 f.K, .int .i64 f.R, .int .i64 f.S, .int .i64 f.P.K, .int .i64 f.P.V, .slice fa f.E.length fc] 29)).alloc (.cells #[.int .i64 g.K, .int .i64 g.R, .int .i64 g.S, .int .i64 g.P.K, .int .i64 g.P.V, .slice ga g.E.length gc] 29)) (w.heap.size + 1) 29 (frBox g ga gc) := Blk.newAt _ _ (by simp)
            have HI := Lib.hid (fEqual_any fa ga f.E g.E fc gc _ (hf.later hB) (hg.later hB))
            clear h1 h2 h3 h4 h5 hK
            go_enter Try.func25, Try.ntmps25
            go_wp2_with fail
            refine HI.out.mono ?_
            rintro e wn ⟨rfl, hb⟩
            go_wp2
            go_ret
            exact ⟨ret_bool HF.out.symm, hB.trans (hb.mono hB.size)⟩
          · have e5 : (f.P.V == g.P.V) = false := by simpa using h5
            have HF := Lib.hid (fr_no f g (by simp [h5]))
            clear h1 h2 h3 h4 h5
            go_enter Try.func25, Try.ntmps25
            go_wp2
            go_ret
            exact ⟨ret_bool HF.out.symm, hB⟩
        · have e4 : (f.P.K == g.P.K) = false := by simpa using h4
          have HF := Lib.hid (fr_no f g (by simp [h4]))
          clear h1 h2 h3 h4
          go_enter Try.func25, Try.ntmps25
          go_wp2
          go_ret
          exact ⟨ret_bool HF.out.symm, hB⟩
      · have e3 : (f.S == g.S) = false := by simpa using h3
        have HF := Lib.hid (fr_no f g (by simp [h3]))
        clear h1 h2 h3
        go_enter Try.func25, Try.ntmps25
        go_wp2
        go_ret
        exact ⟨ret_bool HF.out.symm, hB⟩
    · have e2 : (f.R == g.R) = false := by simpa using h2
      have HF := Lib.hid (fr_no f g (by simp [h2]))
      clear h1 h2
      go_enter Try.func25, Try.ntmps25
      go_wp2
      go_ret
      exact ⟨ret_bool HF.out.symm, hB⟩
  · have e1 : (f.K == g.K) = false := by simpa using h1
    have HF := Lib.hid (fr_no f g (by simp [h1]))
    clear h1
    go_enter Try.func25, Try.ntmps25
    go_wp2
    go_ret
    exact ⟨ret_bool HF.out.symm, hB⟩

end Go.Proofs.Ytafcjdcmbklfkaa

/-
  plaitinglaw6's within, known and Few.
-/
import Derived.Test.YtbghpkdkfbpmeaaDev26
import Derived.Test.YtbghpkdkfbpmeaaDev27
import Derived.Test.YtbghpkdkfbpmeaaLaw1
namespace Go.Proofs.Ytbghpkdkfbpmeaa
open Go.RowKit Plait
set_option maxRecDepth 100000
set_option linter.unusedVariables false

theorem within6_any (a n : Int) (w : World) (hn : 0 < n) (hn2 : n ≤ 1099511627776) :
    Calls Try.prog 15 #[.int .i64 a, .int .i64 n] w fun e w' => e = .returned (.int .i64 (a % n)) ∧ w = w' := by
  have b1 : 0 ≤ a % n := Int.emod_nonneg _ (by omega)
  have b2 : a % n < n := Int.emod_lt_of_pos _ hn
  by_cases h0 : 0 ≤ a
  · go_enter Try.func15, Try.ntmps15
    go_wp2
    go_ret
    exact ⟨rfl, rfl⟩
  · have h1 : a.tmod n = -((-a) % n) := by
      rw [show a = -(-a) by omega, Int.neg_tmod, Int.tmod_eq_emod_of_nonneg (by omega)]; simp
    have c1 : 0 ≤ (-a) % n := Int.emod_nonneg _ (by omega)
    have c2 : (-a) % n < n := Int.emod_lt_of_pos _ hn
    by_cases hz : (-a) % n = 0
    · have h2 : a.tmod n = 0 := by rw [h1, hz]; rfl
      have HF := Lib.hid (show (0 : Int) = a % n by
        have : n ∣ -a := Int.dvd_of_emod_eq_zero hz
        exact (Int.emod_eq_zero_of_dvd (Int.dvd_neg.1 this)).symm)
      clear h1 hz c1 c2 b1 b2
      go_enter Try.func15, Try.ntmps15
      go_wp2
      go_ret
      exact ⟨ret_int HF.out, rfl⟩
    · obtain ⟨r, hr⟩ : ∃ r, r = (-a) % n := ⟨_, rfl⟩
      rw [← hr] at h1 c1 c2 hz
      have HF := Lib.hid (show -r + n = a % n by
        have e := Int.emod_add_mul_ediv (-a) n
        rw [← hr] at e
        have e2 : a = (-r + n) + n * (-((-a) / n) - 1) := by rw [Int.mul_sub, Int.mul_neg]; omega
        rw [e2, Int.add_mul_emod_self_left]
        exact (Int.emod_eq_of_lt (by omega) (by omega)).symm)
      clear hr b1 b2
      go_enter Try.func15, Try.ntmps15
      go_wp2
      go_ret
      exact ⟨ret_int HF.out, rfl⟩

/-- The chapter's examples. -/
def l0 : Fa := ⟨0, 0, 0, 0, [], []⟩
def l9 : Fa := ⟨9, 0, 0, 0, [], []⟩

set_option maxHeartbeats 1600000 in
theorem known6_any (w : World) : Calls Try.prog 9 #[] w fun e w' => e = .returned (.bool true) ∧ Below w.heap.size w w' := by
  have HT := Lib.hid (fun W => lEmit_any c0 none 0 l0 none 0 none 0 0 0 0 1 [48, 49] W c0_ok (RowA.empty _ _) (by decide) (by intro x hx; cases hx) (by decide) (by decide) (by decide) (by decide) ⟨by decide, by decide⟩ (by decide) (by decide) (by decide))
  have HR := Lib.hid (fun W => lRight_any c0 none 0 l0 none 0 none 0 0 0 W)
  have HC := Lib.hid (fun W => lCheck_any c0 none 0 l9 none 0 none 0 W c0_ok (RowA.empty _ _) (by decide))
  have e1 : emitL c0 l0 0 0 0 1 [48, 49] = [48, 49] := by decide
  have e2 : rightB l0 0 0 = true := by decide
  have e3 : checkL c0 l9 = 6 := by decide
  rw [e1] at HT
  rw [e2] at HR
  rw [e3] at HC
  clear e1 e2 e3
  go_enter Try.func9, Try.ntmps9
  go_wp2_with fail
  refine (HT.out _).mono ?_
  rintro e wn ⟨rfl, hb⟩
  obtain ⟨hB, hK, hZ⟩ := boxed hb
  have hQ := hK.at
  clear hb
  go_wp2_with fail
  refine (HR.out _).mono ?_
  rintro e wn ⟨rfl, hb⟩
  clear hQ
  obtain ⟨hB, hK, hZ⟩ := boxed_on hB hK hb
  have hQ := hK.at
  clear hb
  go_wp2_with fail
  refine (HC.out _).mono ?_
  rintro e wm ⟨rfl, hb⟩
  go_wp2
  go_ret
  exact ⟨rfl, hB.trans (hb.mono hB.size)⟩

theorem few_spec (f : Fa) : fewL f = (f.A.all (fun a => decide (a.T.length ≤ 1200)) && decide ((f.A.length : Int) ≤ 50) && decide ((f.D.length : Int) ≤ 50)) := by
  unfold fewL
  congr 1
  · congr 1
    rw [decide_eq_decide]; omega
  · rw [decide_eq_decide]; omega

set_option maxHeartbeats 800000 in
theorem few6_any (f : Fa) (a : Option Addr) (ac : Nat) (d : Option Addr) (dc : Nat) (w : World) (hA : RowA w a f.A) (hD : f.D.length ≤ 9223372036854775807) :
    Calls Try.prog 10 #[.agg #[.int .i64 f.K, .int .i64 f.At, .int .i64 f.F, .int .i64 f.To, .slice a f.A.length ac, .slice d f.D.length dc]] w fun e w' => e = .returned (.bool (fewL f)) ∧ Below w.heap.size w w' := by
  have hlen := hA.1
  have hB0 : Below w.heap.size w (w.alloc (.cells #[.int .i64 f.K, .int .i64 f.At, .int .i64 f.F, .int .i64 f.To, .slice a f.A.length ac, .slice d f.D.length dc] 27)) := alloc_below w _
  have hF : Blk (w.alloc (.cells #[.int .i64 f.K, .int .i64 f.At, .int .i64 f.F, .int .i64 f.To, .slice a f.A.length ac, .slice d f.D.length dc] 27)) w.heap.size 27 (faBox f a ac d dc) := Blk.new w _ _
  have hA1 := hA.alloc (.cells #[.int .i64 f.K, .int .i64 f.At, .int .i64 f.F, .int .i64 f.To, .slice a f.A.length ac, .slice d f.D.length dc] 27)
  have hQ := hF.at
  unfold faBox at hQ
  have HX := Lib.hid (few_spec f)
  go_enter Try.func10, Try.ntmps10
  go_upto_region 1 with fail
  generalize w.alloc (.cells #[.int .i64 f.K, .int .i64 f.At, .int .i64 f.F, .int .i64 f.To, .slice a f.A.length ac, .slice d f.D.length dc] 27) = w1 at *
  go_wp2_with fail
  go_loopw [3] (fun i w' => ∃ k : Nat, k ≤ f.A.length ∧ i = .int .i64 k ∧ (f.A.take k).all (fun a => decide (a.T.length ≤ 1200)) = true ∧ w' = w1) (fun i _ => f.A.length - (intOf i).toNat)
  case atStart => exact ⟨0, Nat.zero_le _, rfl, by simp, rfl⟩
  case round =>
    obtain ⟨k, hk, rfl, hno, rfl⟩ := hrel
    have HN := Lib.hid hno
    clear hno
    by_cases hlt : k < f.A.length
    · have d1 : decide (k < f.A.length) = true := by simpa using hlt
      have d1' : decide ((k : Int) < (f.A.length : Int)) = true := by simp; omega
      obtain ⟨b, off, rfl, hbl, c1, c2, c3, _, _, hT⟩ := hA1.get k hlt
      by_cases hx : f.A[k].T.length ≤ 1200
      · have HS := Lib.hid (show (f.A.take (k + 1)).all (fun a => decide (a.T.length ≤ 1200)) = true by rw [List.take_succ_eq_append_getElem hlt, List.all_append, HN.out]; simpa using hx)
        generalize f.A[k] = t at *
        have d2 : decide ((1200 : Int) < (t.T.length : Int)) = false := by simp; omega
        go_wp2
        go_roundw
        case rel => exact ⟨k + 1, by omega, by go_num, HS.out, by trivial⟩
        case measure => simp [intOf]; omega
      · have HE := Lib.hid (show fewL f = false by
          rw [HX.out]
          have : f.A.all (fun a => decide (a.T.length ≤ 1200)) = false := by
            rw [List.all_eq_false]
            exact ⟨f.A[k], List.getElem_mem hlt, by simpa using hx⟩
          rw [this]
          rfl)
        generalize f.A[k] = t at *
        have d2 : decide ((1200 : Int) < (t.T.length : Int)) = true := by simp; omega
        go_wp2
        go_ret
        exact ⟨ret_bool HE.out.symm, hB0⟩
    · have d1 : decide (k < f.A.length) = false := by simpa using hlt
      have d1' : decide ((k : Int) < (f.A.length : Int)) = false := by simp; omega
      have HE := Lib.hid (show fewL f = (decide ((f.A.length : Int) ≤ 50) && decide ((f.D.length : Int) ≤ 50)) by
        rw [HX.out]
        have := HN.out
        rw [List.take_of_length_le (by omega)] at this
        rw [this]
        rfl)
      cases d3 : decide ((f.A.length : Int) ≤ 50)
      · rw [d3] at HE
        go_wp2
        go_ret
        exact ⟨ret_bool (by rw [HE.out]; rfl), hB0⟩
      · rw [d3] at HE
        go_wp2
        go_ret
        exact ⟨ret_bool (by rw [HE.out]; simp), hB0⟩

end Go.Proofs.Ytbghpkdkfbpmeaa

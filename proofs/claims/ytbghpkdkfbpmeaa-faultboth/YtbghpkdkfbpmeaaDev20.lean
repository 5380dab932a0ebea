/-
  Contracts of package fault, first part: remainders, picks, where a locus is.
-/
import Derived.Test.YtbghpkdkfbpmeaaFa2
import Derived.Stop.Asserts
namespace Go.Proofs.Ytbghpkdkfbpmeaa
open Go.RowKit Plait
set_option maxRecDepth 100000
set_option linter.unusedVariables false

theorem lrem_any (a n : Int) (w : World) (hn : 0 < n) (hn2 : n ≤ 1099511627776) :
    Calls Try.prog 43 #[.int .i64 a, .int .i64 n] w fun e w' => e = .returned (.int .i64 (a % n)) ∧ w = w' := by
  have b1 : 0 ≤ a % n := Int.emod_nonneg _ (by omega)
  have b2 : a % n < n := Int.emod_lt_of_pos _ hn
  by_cases h0 : 0 ≤ a
  · go_enter Try.func43, Try.ntmps43
    go_wp2
    go_ret
    exact ⟨rfl, rfl⟩
  · have h1 : a.tmod n = -((-a) % n) := by
      rw [show a = -(-a) by omega, Int.neg_tmod, Int.tmod_eq_emod_of_nonneg (by omega)]; simp
    have c1 : 0 ≤ (-a) % n := Int.emod_nonneg _ (by omega)
    have c2 : (-a) % n < n := Int.emod_lt_of_pos _ hn
    by_cases hz : (-a) % n = 0
    · have h2 : a.tmod n = 0 := by rw [h1, hz]; rfl
      have HF := Lib.hid (show (0 : Int) = a % n by
        have : n ∣ -a := Int.dvd_of_emod_eq_zero hz
        exact (Int.emod_eq_zero_of_dvd (Int.dvd_neg.1 this)).symm)
      clear h1 hz c1 c2 b1 b2
      go_enter Try.func43, Try.ntmps43
      go_wp2
      go_ret
      exact ⟨ret_int HF.out, rfl⟩
    · obtain ⟨r, hr⟩ : ∃ r, r = (-a) % n := ⟨_, rfl⟩
      rw [← hr] at h1 c1 c2 hz
      have HF := Lib.hid (show -r + n = a % n by
        have e := Int.emod_add_mul_ediv (-a) n
        rw [← hr] at e
        have e2 : a = (-r + n) + n * (-((-a) / n) - 1) := by rw [Int.mul_sub, Int.mul_neg]; omega
        rw [e2, Int.add_mul_emod_self_left]
        exact (Int.emod_eq_of_lt (by omega) (by omega)).symm)
      clear hr b1 b2
      go_enter Try.func43, Try.ntmps43
      go_wp2
      go_ret
      exact ⟨ret_int HF.out, rfl⟩

theorem lvalue_any (n : Int) (w : World) :
    Calls Try.prog 48 #[.int .i64 n] w fun e w' => e = .returned (.agg #[.int .i64 2, .int .i64 (n % 256)]) ∧ Below w.heap.size w w' := by
  have hB : Below w.heap.size w (w.alloc (.cells #[.int .i64 0, .int .i64 0] 79)) := alloc_below w _
  have hK : Blk (w.alloc (.cells #[.int .i64 0, .int .i64 0] 79)) w.heap.size 79 #[.int .i64 0, .int .i64 0] := Blk.new w _ _
  have hQ := hK.at
  have hZ := hK.frozen
  go_enter Try.func48, Try.ntmps48
  go_wp2_with fail
  refine (lrem_any n 256 _ (by omega) (by omega)).mono ?_
  rintro e wl ⟨rfl, rfl⟩
  go_wp2
  refine bodyPost_ret (v := .agg #[.int .i64 2, .int .i64 (n % 256)]) (by simp [results, Try.results48, go_sem]) rfl ⟨rfl, alloc_below _ _⟩

theorem lisBelow_any (a b : Int) (w : World) :
    Calls Try.prog 112 #[.int .i64 a, .int .i64 b] w fun e w' => e = .returned (.bool (decide (0 ≤ b) && decide (b < a))) ∧ w = w' := by
  cases h : decide (0 ≤ b)
  · go_enter Try.func112, Try.ntmps112
    go_wp2
    go_ret
    exact ⟨rfl, rfl⟩
  · go_enter Try.func112, Try.ntmps112
    go_wp2
    go_ret
    exact ⟨ret_bool (by simp), rfl⟩

theorem lnowhere_exists (x n : Int) (w : World) :
    Calls Try.prog 107 #[.int .i64 x, .int .i64 n] w fun e w' => e = .returned (.bool (x == 0)) ∧ w = w' := by
  go_enter Try.func107, Try.ntmps107
  go_wp2
  go_ret
  exact ⟨rfl, rfl⟩

theorem latNode_exists (x n : Int) (w : World) :
    Calls Try.prog 109 #[.int .i64 x, .int .i64 n] w fun e w' => e = .returned (.bool (decide (0 ≤ x) && decide (x < n))) ∧ w = w' := by
  go_enter Try.func109, Try.ntmps109
  go_wp2_with fail
  refine (lisBelow_any n x _).mono ?_
  rintro e wl ⟨rfl, rfl⟩
  go_wp2
  go_ret
  exact ⟨rfl, rfl⟩

theorem latLink_exists (x n : Int) (w : World) (h0 : 0 ≤ n) (h1 : n ≤ 1099511627776) :
    Calls Try.prog 113 #[.int .i64 x, .int .i64 n] w fun e w' => e = .returned (.bool (decide (0 ≤ x) && decide (x < 2 * n))) ∧ w = w' := by
  go_enter Try.func113, Try.ntmps113
  go_wp2_with fail
  refine (lisBelow_any (2 * n) x _).mono ?_
  rintro e wl ⟨rfl, rfl⟩
  go_wp2
  go_ret
  exact ⟨rfl, rfl⟩

theorem lnowhere_sends (x n a b : Int) (w : World) :
    Calls Try.prog 108 #[.int .i64 x, .int .i64 n, .int .i64 a, .int .i64 b] w fun e w' => e = .returned (.bool false) ∧ w = w' := by
  go_enter Try.func108, Try.ntmps108
  go_wp2
  go_ret
  exact ⟨rfl, rfl⟩

theorem latNode_isOf (x i : Int) (w : World) :
    Calls Try.prog 110 #[.int .i64 x, .int .i64 i] w fun e w' => e = .returned (.bool (x == i)) ∧ w = w' := by
  go_enter Try.func110, Try.ntmps110
  go_wp2
  go_ret
  exact ⟨rfl, rfl⟩

theorem latNode_sends (x n a b : Int) (w : World) :
    Calls Try.prog 111 #[.int .i64 x, .int .i64 n, .int .i64 a, .int .i64 b] w fun e w' => e = .returned (.bool (x == a)) ∧ w = w' := by
  go_enter Try.func111, Try.ntmps111
  go_wp2_with fail
  refine (latNode_isOf x a _).mono ?_
  rintro e wl ⟨rfl, rfl⟩
  go_wp2
  go_ret
  exact ⟨rfl, rfl⟩

theorem latLink_sends (x n a b : Int) (w : World) (hn : 0 < n) (hn2 : n ≤ 1000000) (ha : inI a) (hb : inI b) :
    Calls Try.prog 114 #[.int .i64 x, .int .i64 n, .int .i64 a, .int .i64 b] w fun e w' => e = .returned (.bool ((linkI n a b).2 && (linkI n a b).1 == x)) ∧ Below w.heap.size w w' := by
  have HL := Lib.hid (fun W => gLink_any n a b W hn hn2 ha hb)
  generalize linkI n a b = p at *
  obtain ⟨k, is⟩ := p
  cases is
  · go_enter Try.func114, Try.ntmps114
    go_wp2_with fail
    refine (HL.out _).mono ?_
    rintro e wn ⟨rfl, hb⟩
    go_wp2
    go_ret
    exact ⟨rfl, hb⟩
  · go_enter Try.func114, Try.ntmps114
    go_wp2_with fail
    refine (HL.out _).mono ?_
    rintro e wn ⟨rfl, hb⟩
    go_wp2
    go_ret
    exact ⟨ret_bool (by simp), hb⟩

/-- Where a locus is, as a value. -/
def locV (f : Fa) : Value := if f.K = 0 then .iface 70 (.int .i64 f.At) else if f.K = 1 then .iface 71 (.int .i64 f.At) else if f.K = 2 then .iface 72 (.int .i64 f.At) else .iface 70 (.int .i64 0)

theorem ret_loc {a b : Value} {p q : Bool} (h : a = b) (h' : p = q) : Ending.returned (.tuple #[a, .bool p]) = .returned (.tuple #[b, .bool q]) := by rw [h, h']

set_option maxHeartbeats 800000 in
theorem llocusOf_any (f : Fa) (a : Option Addr) (ac : Nat) (d : Option Addr) (dc : Nat) (w : World) :
    Calls Try.prog 28 #[.agg #[.int .i64 f.K, .int .i64 f.At, .int .i64 f.F, .int .i64 f.To, .slice a f.A.length ac, .slice d f.D.length dc]] w fun e w' => e = .returned (.tuple #[locV f, .bool (knownL f)]) ∧ Below w.heap.size w w' := by
  by_cases k0 : f.K = 0
  · have HV := Lib.hid (show locV f = .iface 70 (.int .i64 f.At) by unfold locV; rw [if_pos k0])
    have HF := Lib.hid (show knownL f = true by unfold knownL; simp [k0])
    have c0 : (f.K == 0) = true := by simpa using k0
    clear k0
    go_enter Try.func28, Try.ntmps28
    go_wp2
    go_ret2
    exact ⟨ret_loc HV.out.symm HF.out.symm, alloc_below _ _⟩
  · have c0 : (f.K == 0) = false := by simpa using k0
    by_cases k1 : f.K = 1
    · have HV := Lib.hid (show locV f = .iface 71 (.int .i64 f.At) by unfold locV; rw [if_neg k0, if_pos k1])
      have HF := Lib.hid (show knownL f = true by unfold knownL; simp [k1])
      have c1 : (f.K == 1) = true := by simpa using k1
      clear k0 k1
      go_enter Try.func28, Try.ntmps28
      go_wp2
      go_ret2
      exact ⟨ret_loc HV.out.symm HF.out.symm, alloc_below _ _⟩
    · have c1 : (f.K == 1) = false := by simpa using k1
      by_cases k2 : f.K = 2
      · have HV := Lib.hid (show locV f = .iface 72 (.int .i64 f.At) by unfold locV; rw [if_neg k0, if_neg k1, if_pos k2])
        have HF := Lib.hid (show knownL f = true by unfold knownL; simp [k2])
        have c2 : (f.K == 2) = true := by simpa using k2
        clear k0 k1 k2
        go_enter Try.func28, Try.ntmps28
        go_wp2
        go_ret2
        exact ⟨ret_loc HV.out.symm HF.out.symm, alloc_below _ _⟩
      · have HV := Lib.hid (show locV f = .iface 70 (.int .i64 0) by unfold locV; rw [if_neg k0, if_neg k1, if_neg k2])
        have HF := Lib.hid (show knownL f = false by unfold knownL; simp [k0, k1, k2])
        have c2 : (f.K == 2) = false := by simpa using k2
        clear k0 k1 k2
        go_enter Try.func28, Try.ntmps28
        go_wp2
        go_ret2
        exact ⟨ret_loc HV.out.symm HF.out.symm, alloc_below _ _⟩

theorem lroundsHold_any (f : Fa) (a : Option Addr) (ac : Nat) (d : Option Addr) (dc : Nat) (w : World) :
    Calls Try.prog 29 #[.agg #[.int .i64 f.K, .int .i64 f.At, .int .i64 f.F, .int .i64 f.To, .slice a f.A.length ac, .slice d f.D.length dc]] w fun e w' => e = .returned (.bool (roundsL f)) ∧ Below w.heap.size w w' := by
  have HF := Lib.hid (show roundsL f = (decide (0 ≤ f.F) && decide (f.F ≤ f.To) && decide (f.To ≤ 1000)) from rfl)
  cases h : decide (0 ≤ f.F)
  · rw [h] at HF
    go_enter Try.func29, Try.ntmps29
    go_wp2
    go_ret
    exact ⟨ret_bool (by rw [HF.out]; rfl), alloc_below _ _⟩
  · cases h2 : decide (f.F ≤ f.To)
    · rw [h, h2] at HF
      go_enter Try.func29, Try.ntmps29
      go_wp2
      go_ret
      exact ⟨ret_bool (by rw [HF.out]; rfl), alloc_below _ _⟩
    · rw [h, h2] at HF
      go_enter Try.func29, Try.ntmps29
      go_wp2
      go_ret
      exact ⟨ret_bool (by rw [HF.out]; simp), alloc_below _ _⟩

theorem lisTooLong_any (t : Ac) (w : World) (ht : t.T.length ≤ 9223372036854775807) :
    Calls Try.prog 31 #[.agg #[.int .i64 t.H, .int .i64 t.N, .string ⟨t.T.toArray⟩]] w fun e w' => e = .returned (.bool (longA t)) ∧ Below w.heap.size w w' := by
  have HF := Lib.hid (show longA t = decide (1000 < t.T.length) from rfl)
  go_enter Try.func31, Try.ntmps31
  go_wp2
  go_ret
  exact ⟨ret_bool (by rw [HF.out]; simp; omega), alloc_below _ _⟩

end Go.Proofs.Ytbghpkdkfbpmeaa

/-
  Contracts of package fault, first part: remainders, picks, where a locus is.
-/
import Derived.Test.YtbghpkdkfbpmeaaK8
import Derived.Stop.Asserts
import Derived.Shelf.Bits.Mul64
import Derived.Test.YtbghpkdkfbpmeaaProg
import Derived.Laws.CopyRow
import Derived.Deep.RegionLaw
namespace Go.Proofs.Ytbghpkdkfbpmeaa
open Go.RowKit Plait
set_option maxRecDepth 100000
set_option linter.unusedVariables false

theorem lrem_any (a n : Int) (w : World) (hn : 0 < n) (hn2 : n ≤ 1099511627776) :
    Calls Try.prog 43 #[.int .i64 a, .int .i64 n] w fun e w' => e = .returned (.int .i64 (a % n)) ∧ w = w' := by
  have b1 : 0 ≤ a % n := Int.emod_nonneg _ (by omega)
  have b2 : a % n < n := Int.emod_lt_of_pos _ hn
  by_cases h0 : 0 ≤ a
  · go_enter Try.func43, Try.ntmps43
    go_wp2
    go_ret
    exact ⟨rfl, rfl⟩
  · have h1 : a.tmod n = -((-a) % n) := by
      rw [show a = -(-a) by omega, Int.neg_tmod, Int.tmod_eq_emod_of_nonneg (by omega)]; simp
    have c1 : 0 ≤ (-a) % n := Int.emod_nonneg _ (by omega)
    have c2 : (-a) % n < n := Int.emod_lt_of_pos _ hn
    by_cases hz : (-a) % n = 0
    · have h2 : a.tmod n = 0 := by rw [h1, hz]; rfl
      have HF := Lib.hid (show (0 : Int) = a % n by
        have : n ∣ -a := Int.dvd_of_emod_eq_zero hz
        exact (Int.emod_eq_zero_of_dvd (Int.dvd_neg.1 this)).symm)
      clear h1 hz c1 c2 b1 b2
      go_enter Try.func43, Try.ntmps43
      go_wp2
      go_ret
      exact ⟨ret_int HF.out, rfl⟩
    · obtain ⟨r, hr⟩ : ∃ r, r = (-a) % n := ⟨_, rfl⟩
      rw [← hr] at h1 c1 c2 hz
      have HF := Lib.hid (show -r + n = a % n by
        have e := Int.emod_add_mul_ediv (-a) n
        rw [← hr] at e
        have e2 : a = (-r + n) + n * (-((-a) / n) - 1) := by rw [Int.mul_sub, Int.mul_neg]; omega
        rw [e2, Int.add_mul_emod_self_left]
        exact (Int.emod_eq_of_lt (by omega) (by omega)).symm)
      clear hr b1 b2
      go_enter Try.func43, Try.ntmps43
      go_wp2
      go_ret
      exact ⟨ret_int HF.out, rfl⟩

theorem lvalue_any (n : Int) (w : World) :
    Calls Try.prog 48 #[.int .i64 n] w fun e w' => e = .returned (.agg #[.int .i64 2, .int .i64 (n % 256)]) ∧ Below w.heap.size w w' := by
  have hB : Below w.heap.size w (w.alloc (.cells #[.int .i64 0, .int .i64 0] 79)) := alloc_below w _
  have hK : Blk (w.alloc (.cells #[.int .i64 0, .int .i64 0] 79)) w.heap.size 79 #[.int .i64 0, .int .i64 0] := Blk.new w _ _
  have hQ := hK.at
  have hZ := hK.frozen
  go_enter Try.func48, Try.ntmps48
  go_wp2_with fail
  refine (lrem_any n 256 _ (by omega) (by omega)).mono ?_
  rintro e wl ⟨rfl, rfl⟩
  go_wp2
  refine bodyPost_ret (v := .agg #[.int .i64 2, .int .i64 (n % 256)]) (by simp [results, Try.results48, go_sem]) rfl ⟨rfl, alloc_below _ _⟩

theorem lisBelow_any (a b : Int) (w : World) :
    Calls Try.prog 112 #[.int .i64 a, .int .i64 b] w fun e w' => e = .returned (.bool (decide (0 ≤ b) && decide (b < a))) ∧ w = w' := by
  cases h : decide (0 ≤ b)
  · go_enter Try.func112, Try.ntmps112
    go_wp2
    go_ret
    exact ⟨rfl, rfl⟩
  · go_enter Try.func112, Try.ntmps112
    go_wp2
    go_ret
    exact ⟨ret_bool (by simp), rfl⟩

theorem lnowhere_exists (x n : Int) (w : World) :
    Calls Try.prog 107 #[.int .i64 x, .int .i64 n] w fun e w' => e = .returned (.bool (x == 0)) ∧ w = w' := by
  go_enter Try.func107, Try.ntmps107
  go_wp2
  go_ret
  exact ⟨rfl, rfl⟩

theorem latNode_exists (x n : Int) (w : World) :
    Calls Try.prog 109 #[.int .i64 x, .int .i64 n] w fun e w' => e = .returned (.bool (decide (0 ≤ x) && decide (x < n))) ∧ w = w' := by
  go_enter Try.func109, Try.ntmps109
  go_wp2_with fail
  refine (lisBelow_any n x _).mono ?_
  rintro e wl ⟨rfl, rfl⟩
  go_wp2
  go_ret
  exact ⟨rfl, rfl⟩

theorem latLink_exists (x n : Int) (w : World) (h0 : 0 ≤ n) (h1 : n ≤ 1099511627776) :
    Calls Try.prog 113 #[.int .i64 x, .int .i64 n] w fun e w' => e = .returned (.bool (decide (0 ≤ x) && decide (x < 2 * n))) ∧ w = w' := by
  go_enter Try.func113, Try.ntmps113
  go_wp2_with fail
  refine (lisBelow_any (2 * n) x _).mono ?_
  rintro e wl ⟨rfl, rfl⟩
  go_wp2
  go_ret
  exact ⟨rfl, rfl⟩

theorem lnowhere_sends (x n a b : Int) (w : World) :
    Calls Try.prog 108 #[.int .i64 x, .int .i64 n, .int .i64 a, .int .i64 b] w fun e w' => e = .returned (.bool false) ∧ w = w' := by
  go_enter Try.func108, Try.ntmps108
  go_wp2
  go_ret
  exact ⟨rfl, rfl⟩

theorem latNode_isOf (x i : Int) (w : World) :
    Calls Try.prog 110 #[.int .i64 x, .int .i64 i] w fun e w' => e = .returned (.bool (x == i)) ∧ w = w' := by
  go_enter Try.func110, Try.ntmps110
  go_wp2
  go_ret
  exact ⟨rfl, rfl⟩

theorem latNode_sends (x n a b : Int) (w : World) :
    Calls Try.prog 111 #[.int .i64 x, .int .i64 n, .int .i64 a, .int .i64 b] w fun e w' => e = .returned (.bool (x == a)) ∧ w = w' := by
  go_enter Try.func111, Try.ntmps111
  go_wp2_with fail
  refine (latNode_isOf x a _).mono ?_
  rintro e wl ⟨rfl, rfl⟩
  go_wp2
  go_ret
  exact ⟨rfl, rfl⟩

theorem latLink_sends (x n a b : Int) (w : World) (hn : 0 < n) (hn2 : n ≤ 1000000) (ha : inI a) (hb : inI b) :
    Calls Try.prog 114 #[.int .i64 x, .int .i64 n, .int .i64 a, .int .i64 b] w fun e w' => e = .returned (.bool ((linkI n a b).2 && (linkI n a b).1 == x)) ∧ Below w.heap.size w w' := by
  have HL := Lib.hid (fun W => gLink_any n a b W hn hn2 ha hb)
  generalize linkI n a b = p at *
  obtain ⟨k, is⟩ := p
  cases is
  · go_enter Try.func114, Try.ntmps114
    go_wp2_with fail
    refine (HL.out _).mono ?_
    rintro e wn ⟨rfl, hb⟩
    go_wp2
    go_ret
    exact ⟨rfl, hb⟩
  · go_enter Try.func114, Try.ntmps114
    go_wp2_with fail
    refine (HL.out _).mono ?_
    rintro e wn ⟨rfl, hb⟩
    go_wp2
    go_ret
    exact ⟨ret_bool (by simp), hb⟩

/-- Where a locus is, as a value. -/
def locV (f : Fa) : Value := if f.K = 0 then .iface 70 (.int .i64 f.At) else if f.K = 1 then .iface 71 (.int .i64 f.At) else if f.K = 2 then .iface 72 (.int .i64 f.At) else .iface 70 (.int .i64 0)

theorem ret_loc {a b : Value} {p q : Bool} (h : a = b) (h' : p = q) : Ending.returned (.tuple #[a, .bool p]) = .returned (.tuple #[b, .bool q]) := by rw [h, h']

set_option maxHeartbeats 800000 in
theorem llocusOf_any (f : Fa) (a : Option Addr) (ac : Nat) (d : Option Addr) (dc : Nat) (w : World) :
    Calls Try.prog 28 #[.agg #[.int .i64 f.K, .int .i64 f.At, .int .i64 f.F, .int .i64 f.To, .slice a f.A.length ac, .slice d f.D.length dc]] w fun e w' => e = .returned (.tuple #[locV f, .bool (knownL f)]) ∧ Below w.heap.size w w' := by
  by_cases k0 : f.K = 0
  · have HV := Lib.hid (show locV f = .iface 70 (.int .i64 f.At) by unfold locV; rw [if_pos k0])
    have HF := Lib.hid (show knownL f = true by unfold knownL; simp [k0])
    have c0 : (f.K == 0) = true := by simpa using k0
    clear k0
    go_enter Try.func28, Try.ntmps28
    go_wp2
    go_ret2
    exact ⟨ret_loc HV.out.symm HF.out.symm, alloc_below _ _⟩
  · have c0 : (f.K == 0) = false := by simpa using k0
    by_cases k1 : f.K = 1
    · have HV := Lib.hid (show locV f = .iface 71 (.int .i64 f.At) by unfold locV; rw [if_neg k0, if_pos k1])
      have HF := Lib.hid (show knownL f = true by unfold knownL; simp [k1])
      have c1 : (f.K == 1) = true := by simpa using k1
      clear k0 k1
      go_enter Try.func28, Try.ntmps28
      go_wp2
      go_ret2
      exact ⟨ret_loc HV.out.symm HF.out.symm, alloc_below _ _⟩
    · have c1 : (f.K == 1) = false := by simpa using k1
      by_cases k2 : f.K = 2
      · have HV := Lib.hid (show locV f = .iface 72 (.int .i64 f.At) by unfold locV; rw [if_neg k0, if_neg k1, if_pos k2])
        have HF := Lib.hid (show knownL f = true by unfold knownL; simp [k2])
        have c2 : (f.K == 2) = true := by simpa using k2
        clear k0 k1 k2
        go_enter Try.func28, Try.ntmps28
        go_wp2
        go_ret2
        exact ⟨ret_loc HV.out.symm HF.out.symm, alloc_below _ _⟩
      · have HV := Lib.hid (show locV f = .iface 70 (.int .i64 0) by unfold locV; rw [if_neg k0, if_neg k1, if_neg k2])
        have HF := Lib.hid (show knownL f = false by unfold knownL; simp [k0, k1, k2])
        have c2 : (f.K == 2) = false := by simpa using k2
        clear k0 k1 k2
        go_enter Try.func28, Try.ntmps28
        go_wp2
        go_ret2
        exact ⟨ret_loc HV.out.symm HF.out.symm, alloc_below _ _⟩

theorem lroundsHold_any (f : Fa) (a : Option Addr) (ac : Nat) (d : Option Addr) (dc : Nat) (w : World) :
    Calls Try.prog 29 #[.agg #[.int .i64 f.K, .int .i64 f.At, .int .i64 f.F, .int .i64 f.To, .slice a f.A.length ac, .slice d f.D.length dc]] w fun e w' => e = .returned (.bool (roundsL f)) ∧ Below w.heap.size w w' := by
  have HF := Lib.hid (show roundsL f = (decide (0 ≤ f.F) && decide (f.F ≤ f.To) && decide (f.To ≤ 1000)) from rfl)
  cases h : decide (0 ≤ f.F)
  · rw [h] at HF
    go_enter Try.func29, Try.ntmps29
    go_wp2
    go_ret
    exact ⟨ret_bool (by rw [HF.out]; rfl), alloc_below _ _⟩
  · cases h2 : decide (f.F ≤ f.To)
    · rw [h, h2] at HF
      go_enter Try.func29, Try.ntmps29
      go_wp2
      go_ret
      exact ⟨ret_bool (by rw [HF.out]; rfl), alloc_below _ _⟩
    · rw [h, h2] at HF
      go_enter Try.func29, Try.ntmps29
      go_wp2
      go_ret
      exact ⟨ret_bool (by rw [HF.out]; simp), alloc_below _ _⟩

theorem lisTooLong_any (t : Ac) (w : World) (ht : t.T.length ≤ 9223372036854775807) :
    Calls Try.prog 31 #[.agg #[.int .i64 t.H, .int .i64 t.N, .string ⟨t.T.toArray⟩]] w fun e w' => e = .returned (.bool (longA t)) ∧ Below w.heap.size w w' := by
  have HF := Lib.hid (show longA t = decide (1000 < t.T.length) from rfl)
  go_enter Try.func31, Try.ntmps31
  go_wp2
  go_ret
  exact ⟨ret_bool (by rw [HF.out]; simp; omega), alloc_below _ _⟩

end Go.Proofs.Ytbghpkdkfbpmeaa
/-
  Contracts of package fault, second part: whether a locus may be, whom it hits, who is right, how its clock seems.
-/
namespace Go.Proofs.Ytbghpkdkfbpmeaa
open Go.RowKit Plait
set_option maxRecDepth 100000
set_option linter.unusedVariables false

theorem lisAt_any (f : Fa) (a : Option Addr) (ac : Nat) (d : Option Addr) (dc : Nat) (i : Int) (w : World) :
    Calls Try.prog 32 #[.agg #[.int .i64 f.K, .int .i64 f.At, .int .i64 f.F, .int .i64 f.To, .slice a f.A.length ac, .slice d f.D.length dc], .int .i64 i] w fun e w' => e = .returned (.bool (atB f i)) ∧ Below w.heap.size w w' := by
  have hB0 : Below w.heap.size w (w.alloc (.cells #[.int .i64 f.K, .int .i64 f.At, .int .i64 f.F, .int .i64 f.To, .slice a f.A.length ac, .slice d f.D.length dc] 27)) := alloc_below w _
  have HL := Lib.hid (fun W => llocusOf_any f a ac d dc W)
  have hn0 : ∀ (v : Value) (w : World), (Instr.typeAssert (.iface 70 v) 55 75 true).run Try.prog w = .ok (.tuple #[.nilIface, .bool false]) w := fun v w => run_typeAssert_lacksB Try.underlying75 (by kernel_rfl) (by kernel_rfl) v _ w
  have hn2 : ∀ (v : Value) (w : World), (Instr.typeAssert (.iface 72 v) 55 75 true).run Try.prog w = .ok (.tuple #[.nilIface, .bool false]) w := fun v w => run_typeAssert_lacksB Try.underlying75 (by kernel_rfl) (by kernel_rfl) v _ w
  have hn1 : ∀ (v : Value) (w : World), (Instr.typeAssert (.iface 71 v) 55 75 true).run Try.prog w = .ok (.tuple #[.iface 71 v, .bool true]) w := fun v w => run_typeAssert_hasB Try.underlying75 (by kernel_rfl) v _ w
  by_cases k1 : f.K = 1
  · have HV := Lib.hid (show locV f = .iface 71 (.int .i64 f.At) by unfold locV; rw [if_neg (by omega), if_pos k1])
    have HF := Lib.hid (show atB f i = (f.At == i) by unfold atB; simp [k1])
    rw [HV.out] at HL
    clear k1
    go_enter Try.func32, Try.ntmps32
    go_wp2_with fail
    refine (HL.out _).mono ?_
    rintro e wn ⟨rfl, hb⟩
    replace hB0 := hB0.trans (hb.mono hB0.size)
    go_wp2_with fail
    refine (latNode_isOf f.At i _).mono ?_
    rintro e wn ⟨rfl, rfl⟩
    go_wp2
    go_ret
    exact ⟨ret_bool HF.out.symm, hB0⟩
  · have HF := Lib.hid (show atB f i = false by unfold atB; simp [k1])
    obtain ⟨t, v, HV, ht⟩ : ∃ t v, locV f = .iface t v ∧ (t = 70 ∨ t = 72) := by
      unfold locV
      split
      · exact ⟨_, _, rfl, .inl rfl⟩
      · split
        · exact ⟨_, _, rfl, .inr rfl⟩
        · exact ⟨_, _, rfl, .inl rfl⟩
    rw [HV] at HL
    rcases ht with rfl | rfl
    all_goals
      clear k1 HV
      go_enter Try.func32, Try.ntmps32
      go_wp2_with fail
      refine (HL.out _).mono ?_
      rintro e wn ⟨rfl, hb⟩
      replace hB0 := hB0.trans (hb.mono hB0.size)
      go_wp2
      go_ret
      exact ⟨ret_bool HF.out.symm, hB0⟩

end Go.Proofs.Ytbghpkdkfbpmeaa
/-
  Contracts of package fault: whether a locus may be.
-/
namespace Go.Proofs.Ytbghpkdkfbpmeaa
open Go.RowKit Plait
set_option maxRecDepth 100000
set_option linter.unusedVariables false

theorem any_step (A : List Ac) (k : Nat) (h : k < A.length) (ha : (A.take k).any longA = false) (e : longA A[k] = false) : (A.take (k + 1)).any longA = false := by
  rw [List.take_succ_eq_append_getElem h, List.any_append, ha]
  simp [e]
theorem any_yes (A : List Ac) (k : Nat) (h : k < A.length) (e : longA A[k] = true) : A.any longA = true := List.any_eq_true.2 ⟨A[k], List.getElem_mem h, e⟩
theorem any_end (A : List Ac) (k : Nat) (h : ¬ k < A.length) (ha : (A.take k).any longA = false) : A.any longA = false := by
  rw [List.take_of_length_le (by omega)] at ha
  exact ha

set_option maxHeartbeats 800000 in
theorem lcontains_any (a : Option Addr) (A : List Ac) (cap : Nat) (w : World) (hA : RowA w a A) :
    Calls Try.prog 30 #[.slice a A.length cap, .func (.func 31) #[] #[]] w fun e w' => e = .returned (.bool (A.any longA)) ∧ Below w.heap.size w w' := by
  have HI := Lib.hid (show Calls Try.prog 42 #[.slice a A.length cap, .func (.func 31) #[] #[]] w fun e w' => (∃ r : Int, e = .returned (.int .i64 r) ∧ decide (0 ≤ r) = A.any longA) ∧ Below w.heap.size w w' from by
    have hlen := hA.1
    go_enter Try.func42, Try.ntmps42
    go_wp2
    go_loopw [5, 8] (fun _ i w' => ∃ k : Nat, k ≤ A.length ∧ i = .int .i64 k ∧ (A.take k).any longA = false ∧ Below w.heap.size w w') (fun _ i _ => A.length - (intOf i).toNat)
    case atStart => exact ⟨0, Nat.zero_le _, rfl, by simp, Below.refl _ _⟩
    case round =>
      obtain ⟨k, hk, rfl, hno, hB⟩ := hrel
      have HN := Lib.hid hno
      clear hno
      by_cases hlt : k < A.length
      · have d1 : decide (k < A.length) = true := by simpa using hlt
        obtain ⟨b, off, rfl, hbl, c1, c2, c3, _, _, hT⟩ := (hA.later hB).get k hlt
        have HC := Lib.hid (fun W => lisTooLong_any A[k] W hT)
        cases hx : longA A[k]
        · have HS := Lib.hid (any_step A k hlt HN.out hx)
          rw [hx] at HC
          clear hx
          generalize A[k] = t at *
          go_wp2_with fail
          refine (HC.out _).mono ?_
          rintro e wn ⟨rfl, hb⟩
          go_wp2
          go_roundw
          case rel => exact ⟨k + 1, by omega, by go_num, HS.out, hB.trans (hb.mono hB.size)⟩
          case measure => simp [intOf]; omega
        · have HF := Lib.hid (any_yes A k hlt hx)
          rw [hx] at HC
          clear hx
          generalize A[k] = t at *
          go_wp2_with fail
          refine (HC.out _).mono ?_
          rintro e wn ⟨rfl, hb⟩
          go_wp2
          go_ret
          exact ⟨⟨_, rfl, by rw [HF.out]; simp⟩, hB.trans (hb.mono hB.size)⟩
      · have d1 : decide (k < A.length) = false := by simpa using hlt
        have HF := Lib.hid (any_end A k hlt HN.out)
        go_wp2
        go_ret
        exact ⟨⟨_, rfl, by rw [HF.out]; rfl⟩, hB⟩)
  go_enter Try.func30, Try.ntmps30
  go_wp2_with fail
  refine HI.out.mono ?_
  rintro e wn ⟨⟨r, rfl, hr⟩, hb⟩
  have HR := Lib.hid hr
  clear hr
  go_wp2
  go_ret
  exact ⟨ret_bool HR.out, hb⟩

/-- The call of a locus' method exists, whatever the kind. -/
theorem place_of {c : Cf} {f : Fa} : (f.K = 0 → placeL c f = (f.At == 0)) ∧ (f.K = 1 → placeL c f = (decide (0 ≤ f.At) && decide (f.At < c.N))) ∧ (f.K = 2 → placeL c f = (decide (0 ≤ f.At) && decide (f.At < 2 * c.N))) := by
  refine ⟨fun h => ?_, fun h => ?_, fun h => ?_⟩
  · unfold placeL placesI
    rw [if_neg (by omega), if_neg (by omega)]
    by_cases h0 : f.At = 0
    · simp [h0]
    · have : ¬ (0 ≤ f.At ∧ f.At < 1) := by omega
      rw [Bool.eq_iff_iff]
      simp [h0]
      omega
  · unfold placeL placesI
    rw [if_pos h]
  · unfold placeL placesI
    rw [if_neg (by omega), if_pos h]

set_option maxHeartbeats 3200000 in
theorem lCheck_any (c : Cf) (ca : Option Addr) (cc : Nat) (f : Fa) (a : Option Addr) (ac : Nat) (d : Option Addr) (dc : Nat) (w : World) (hc : c.Ok) (hA : RowA w a f.A) (hD : f.D.length ≤ 9223372036854775807) :
    Calls Try.prog 13 #[.agg #[.int .i64 c.N, .int .i64 c.Pi, .int .i64 c.E, .int .i64 c.G, .int .i64 c.F, .slice ca c.P.length cc], .agg #[.int .i64 f.K, .int .i64 f.At, .int .i64 f.F, .int .i64 f.To, .slice a f.A.length ac, .slice d f.D.length dc]] w fun e w' => e = .returned (.int .i64 (checkL c f)) ∧ Below w.heap.size w w' := by
  have hB0 : Below w.heap.size w ((w.alloc (.cells #[.int .i64 c.N, .int .i64 c.Pi, .int .i64 c.E, .int .i64 c.G, .int .i64 c.F, .slice ca c.P.length cc] 24)).alloc (.cells #[.int .i64 f.K, .int .i64 f.At, .int .i64 f.F, .int .i64 f.To, .slice a f.A.length ac, .slice d f.D.length dc] 27)) := (alloc_below w _).alloc (by simp) _
  have hC : Blk ((w.alloc (.cells #[.int .i64 c.N, .int .i64 c.Pi, .int .i64 c.E, .int .i64 c.G, .int .i64 c.F, .slice ca c.P.length cc] 24)).alloc (.cells #[.int .i64 f.K, .int .i64 f.At, .int .i64 f.F, .int .i64 f.To, .slice a f.A.length ac, .slice d f.D.length dc] 27)) w.heap.size 24 (confBox c ca cc) := (Blk.new w _ _).alloc _
  have hF : Blk ((w.alloc (.cells #[.int .i64 c.N, .int .i64 c.Pi, .int .i64 c.E, .int .i64 c.G, .int .i64 c.F, .slice ca c.P.length cc] 24)).alloc (.cells #[.int .i64 f.K, .int .i64 f.At, .int .i64 f.F, .int .i64 f.To, .slice a f.A.length ac, .slice d f.D.length dc] 27)) (w.heap.size + 1) 27 (faBox f a ac d dc) := Blk.newAt _ _ (by simp)
  have HL := Lib.hid (fun W => llocusOf_any f a ac d dc W)
  have HR := Lib.hid (fun W => lroundsHold_any f a ac d dc W)
  have HX := Lib.hid (fun W (h : RowA W a f.A) => lcontains_any a f.A ac W h)
  have h6 := hc.n6
  have h12 := hc.n12
  have hAl := hA.1
  by_cases hk : knownL f = true
  · have hE : ∃ t x, locV f = .iface t (.int .i64 x) ∧ ∃ g, (t = 70 ∧ g = 107 ∨ t = 71 ∧ g = 109 ∨ t = 72 ∧ g = 113) ∧ ∀ W, Calls Try.prog g #[.int .i64 x, .int .i64 c.N] W fun e w' => e = .returned (.bool (placeL c f)) ∧ W = w' := by
      obtain ⟨p0, p1, p2⟩ := place_of (c := c) (f := f)
      rcases (by unfold knownL at hk; simp at hk; omega : f.K = 0 ∨ f.K = 1 ∨ f.K = 2) with k | k | k
      · exact ⟨_, f.At, by unfold locV; rw [if_pos k], _, .inl ⟨rfl, rfl⟩, fun W => by rw [p0 k]; exact lnowhere_exists _ _ W⟩
      · exact ⟨_, f.At, by unfold locV; rw [if_neg (by omega), if_pos k], _, .inr (.inl ⟨rfl, rfl⟩), fun W => by rw [p1 k]; exact latNode_exists _ _ W⟩
      · exact ⟨_, f.At, by unfold locV; rw [if_neg (by omega), if_neg (by omega), if_pos k], _, .inr (.inr ⟨rfl, rfl⟩), fun W => by rw [p2 k]; exact latLink_exists _ _ W (by omega) (by omega)⟩
    obtain ⟨t, x, hV, g, hg, hM⟩ := hE
    rw [hV, hk] at HL
    have HM := Lib.hid hM
    have H1 := Lib.hid (checkL_p c f hk)
    have H2 := Lib.hid (checkL_l c f hk)
    have HG : longL f = (decide ((40 : Int) < (f.A.length : Int)) || decide ((40 : Int) < (f.D.length : Int)) || f.A.any longA) := rfl
    have HG2 := Lib.hid HG
    clear hM hk HG
    generalize f.A.any longA = lg at *
    generalize placeL c f = p at *
    generalize roundsL f = r at *
    rcases hg with ⟨rfl, rfl⟩ | ⟨rfl, rfl⟩ | ⟨rfl, rfl⟩
    all_goals
      clear hV
      cases p
      · go_enter Try.func13, Try.ntmps13
        go_wp2_with fail
        refine (HL.out _).mono ?_
        rintro e wn ⟨rfl, hb⟩
        replace hB0 := hB0.trans (hb.mono hB0.size)
        replace hC := hC.later hb
        have hQ := hC.at
        unfold confBox at hQ
        clear hb hF
        go_wp2_with fail
        refine (HM.out _).mono ?_
        rintro e wl ⟨rfl, rfl⟩
        go_wp2
        go_ret
        exact ⟨ret_int (H1.out rfl).symm, hB0⟩
      · cases r
        · go_enter Try.func13, Try.ntmps13
          go_wp2_with fail
          refine (HL.out _).mono ?_
          rintro e wn ⟨rfl, hb⟩
          replace hB0 := hB0.trans (hb.mono hB0.size)
          replace hC := hC.later hb
          replace hF := hF.later hb
          have hQ := hC.at
          unfold confBox at hQ
          have hQf := hF.at
          unfold faBox at hQf
          clear hb
          go_wp2_with fail
          refine (HM.out _).mono ?_
          rintro e wl ⟨rfl, rfl⟩
          go_wp2_with fail
          refine (HR.out _).mono ?_
          rintro e wm ⟨rfl, hb⟩
          go_wp2
          go_ret
          exact ⟨ret_int (H1.out rfl).symm, hB0.trans (hb.mono hB0.size)⟩
        · have H3 := Lib.hid (H2.out rfl)
          cases d1 : decide ((40 : Int) < (f.A.length : Int))
          · cases d2 : decide ((40 : Int) < (f.D.length : Int))
            · have H4 := Lib.hid (show longL f = lg by rw [HG2.out, d1, d2]; rfl)
              cases lg
              all_goals
                have H5 := Lib.hid (show checkL c f = _ by rw [H3.out, H4.out])
                go_enter Try.func13, Try.ntmps13
                go_wp2_with fail
                refine (HL.out _).mono ?_
                rintro e wn ⟨rfl, hb⟩
                replace hB0 := hB0.trans (hb.mono hB0.size)
                replace hC := hC.later hb
                replace hF := hF.later hb
                have hQ := hC.at
                unfold confBox at hQ
                have hQf := hF.at
                unfold faBox at hQf
                clear hb
                go_wp2_with fail
                refine (HM.out _).mono ?_
                rintro e wl ⟨rfl, rfl⟩
                go_wp2_with fail
                refine (HR.out _).mono ?_
                rintro e wm ⟨rfl, hb⟩
                clear hQ hQf
                replace hB0 := hB0.trans (hb.mono hB0.size)
                replace hF := hF.later hb
                have hQf := hF.at
                unfold faBox at hQf
                clear hb hC
                go_wp2_with fail
                refine (HX.out _ (hA.later hB0)).mono ?_
                rintro e wk ⟨rfl, hb⟩
                go_wp2
                go_ret
                exact ⟨ret_int H5.out.symm, hB0.trans (hb.mono hB0.size)⟩
            · have H4 := Lib.hid (show longL f = true by rw [HG2.out, d2]; simp)
              have H5 := Lib.hid (show checkL c f = 2 by rw [H3.out, H4.out]; rfl)
              go_enter Try.func13, Try.ntmps13
              go_wp2_with fail
              refine (HL.out _).mono ?_
              rintro e wn ⟨rfl, hb⟩
              replace hB0 := hB0.trans (hb.mono hB0.size)
              replace hC := hC.later hb
              replace hF := hF.later hb
              have hQ := hC.at
              unfold confBox at hQ
              have hQf := hF.at
              unfold faBox at hQf
              clear hb
              go_wp2_with fail
              refine (HM.out _).mono ?_
              rintro e wl ⟨rfl, rfl⟩
              go_wp2_with fail
              refine (HR.out _).mono ?_
              rintro e wm ⟨rfl, hb⟩
              clear hQ hQf
              replace hB0 := hB0.trans (hb.mono hB0.size)
              replace hF := hF.later hb
              have hQf := hF.at
              unfold faBox at hQf
              clear hb hC
              go_wp2
              go_ret
              exact ⟨ret_int H5.out.symm, hB0⟩
          · have H4 := Lib.hid (show longL f = true by rw [HG2.out, d1]; rfl)
            have H5 := Lib.hid (show checkL c f = 2 by rw [H3.out, H4.out]; rfl)
            go_enter Try.func13, Try.ntmps13
            go_wp2_with fail
            refine (HL.out _).mono ?_
            rintro e wn ⟨rfl, hb⟩
            replace hB0 := hB0.trans (hb.mono hB0.size)
            replace hC := hC.later hb
            replace hF := hF.later hb
            have hQ := hC.at
            unfold confBox at hQ
            have hQf := hF.at
            unfold faBox at hQf
            clear hb
            go_wp2_with fail
            refine (HM.out _).mono ?_
            rintro e wl ⟨rfl, rfl⟩
            go_wp2_with fail
            refine (HR.out _).mono ?_
            rintro e wm ⟨rfl, hb⟩
            clear hQ hQf
            replace hB0 := hB0.trans (hb.mono hB0.size)
            replace hF := hF.later hb
            have hQf := hF.at
            unfold faBox at hQf
            clear hb hC
            go_wp2
            go_ret
            exact ⟨ret_int H5.out.symm, hB0⟩
  · replace hk : knownL f = false := by simpa using hk
    have HK := Lib.hid (checkL_k c f hk)
    rw [hk] at HL
    obtain ⟨t, x, hV⟩ : ∃ t x, locV f = .iface t x := by
      unfold locV
      split
      · exact ⟨_, _, rfl⟩
      · split
        · exact ⟨_, _, rfl⟩
        · split <;> exact ⟨_, _, rfl⟩
    rw [hV] at HL
    clear hV hk
    go_enter Try.func13, Try.ntmps13
    go_wp2_with fail
    refine (HL.out _).mono ?_
    rintro e wn ⟨rfl, hb⟩
    go_wp2
    go_ret
    exact ⟨ret_int HK.out.symm, hB0.trans (hb.mono hB0.size)⟩

end Go.Proofs.Ytbghpkdkfbpmeaa
/-
  Contracts of package fault, third part: whom a locus hits, who is right, how its clock seems.
-/
namespace Go.Proofs.Ytbghpkdkfbpmeaa
open Go.RowKit Plait
set_option maxRecDepth 100000
set_option linter.unusedVariables false

set_option maxHeartbeats 1600000 in
theorem lHits_any (c : Cf) (ca : Option Addr) (cc : Nat) (f : Fa) (a : Option Addr) (ac : Nat) (d : Option Addr) (dc : Nat) (i j : Int) (w : World) (hc : c.Ok) (hi : inI i) (hj : inI j) :
    Calls Try.prog 25 #[.agg #[.int .i64 c.N, .int .i64 c.Pi, .int .i64 c.E, .int .i64 c.G, .int .i64 c.F, .slice ca c.P.length cc], .agg #[.int .i64 f.K, .int .i64 f.At, .int .i64 f.F, .int .i64 f.To, .slice a f.A.length ac, .slice d f.D.length dc], .int .i64 i, .int .i64 j] w fun e w' => e = .returned (.bool (hitsB c f i j)) ∧ Below w.heap.size w w' := by
  have hB0 : Below w.heap.size w ((w.alloc (.cells #[.int .i64 c.N, .int .i64 c.Pi, .int .i64 c.E, .int .i64 c.G, .int .i64 c.F, .slice ca c.P.length cc] 24)).alloc (.cells #[.int .i64 f.K, .int .i64 f.At, .int .i64 f.F, .int .i64 f.To, .slice a f.A.length ac, .slice d f.D.length dc] 27)) := (alloc_below w _).alloc (by simp) _
  have hC : Blk ((w.alloc (.cells #[.int .i64 c.N, .int .i64 c.Pi, .int .i64 c.E, .int .i64 c.G, .int .i64 c.F, .slice ca c.P.length cc] 24)).alloc (.cells #[.int .i64 f.K, .int .i64 f.At, .int .i64 f.F, .int .i64 f.To, .slice a f.A.length ac, .slice d f.D.length dc] 27)) w.heap.size 24 (confBox c ca cc) := (Blk.new w _ _).alloc _
  have HL := Lib.hid (fun W => llocusOf_any f a ac d dc W)
  have h6 := hc.n6
  have h12 := hc.n12
  have hE : ∃ t x, locV f = .iface t (.int .i64 x) ∧ ∃ g, (t = 70 ∧ g = 108 ∨ t = 71 ∧ g = 111 ∨ t = 72 ∧ g = 114) ∧ ∀ W, Calls Try.prog g #[.int .i64 x, .int .i64 c.N, .int .i64 i, .int .i64 j] W fun e w' => e = .returned (.bool (hitsB c f i j)) ∧ Below W.heap.size W w' := by
    unfold hitsB locV
    by_cases k1 : f.K = 1
    · exact ⟨_, f.At, by rw [if_neg (by omega), if_pos k1], _, .inr (.inl ⟨rfl, rfl⟩), fun W => by rw [if_pos k1]; exact (latNode_sends _ _ _ _ W).mono fun e w' ⟨h1, h2⟩ => ⟨h1, h2 ▸ Below.refl _ _⟩⟩
    · by_cases k2 : f.K = 2
      · exact ⟨_, f.At, by rw [if_neg (by omega), if_neg k1, if_pos k2], _, .inr (.inr ⟨rfl, rfl⟩), fun W => by rw [if_neg k1, if_pos k2]; exact latLink_sends _ _ _ _ W (by omega) (by omega) hi hj⟩
      · by_cases k0 : f.K = 0
        · exact ⟨_, f.At, by rw [if_pos k0], _, .inl ⟨rfl, rfl⟩, fun W => by rw [if_neg k1, if_neg k2]; exact (lnowhere_sends _ _ _ _ W).mono fun e w' ⟨h1, h2⟩ => ⟨h1, h2 ▸ Below.refl _ _⟩⟩
        · exact ⟨_, 0, by rw [if_neg k0, if_neg k1, if_neg k2], _, .inl ⟨rfl, rfl⟩, fun W => by rw [if_neg k1, if_neg k2]; exact (lnowhere_sends _ _ _ _ W).mono fun e w' ⟨h1, h2⟩ => ⟨h1, h2 ▸ Below.refl _ _⟩⟩
  obtain ⟨t, x, hV, g, hg, hM⟩ := hE
  rw [hV] at HL
  have HM := Lib.hid hM
  clear hM hV
  rcases hg with ⟨rfl, rfl⟩ | ⟨rfl, rfl⟩ | ⟨rfl, rfl⟩
  all_goals
    go_enter Try.func25, Try.ntmps25
    go_wp2_with fail
    refine (HL.out _).mono ?_
    rintro e wn ⟨rfl, hb⟩
    replace hB0 := hB0.trans (hb.mono hB0.size)
    replace hC := hC.later hb
    have hQ := hC.at
    unfold confBox at hQ
    clear hb
    go_wp2_with fail
    refine (HM.out _).mono ?_
    rintro e wm ⟨rfl, hb⟩
    go_wp2
    go_ret
    exact ⟨rfl, hB0.trans (hb.mono hB0.size)⟩

theorem lRight_any (c : Cf) (ca : Option Addr) (cc : Nat) (f : Fa) (a : Option Addr) (ac : Nat) (d : Option Addr) (dc : Nat) (r i : Int) (w : World) :
    Calls Try.prog 26 #[.agg #[.int .i64 c.N, .int .i64 c.Pi, .int .i64 c.E, .int .i64 c.G, .int .i64 c.F, .slice ca c.P.length cc], .agg #[.int .i64 f.K, .int .i64 f.At, .int .i64 f.F, .int .i64 f.To, .slice a f.A.length ac, .slice d f.D.length dc], .int .i64 r, .int .i64 i] w fun e w' => e = .returned (.bool (rightB f r i)) ∧ Below w.heap.size w w' := by
  have hB0 : Below w.heap.size w ((w.alloc (.cells #[.int .i64 c.N, .int .i64 c.Pi, .int .i64 c.E, .int .i64 c.G, .int .i64 c.F, .slice ca c.P.length cc] 24)).alloc (.cells #[.int .i64 f.K, .int .i64 f.At, .int .i64 f.F, .int .i64 f.To, .slice a f.A.length ac, .slice d f.D.length dc] 27)) := (alloc_below w _).alloc (by simp) _
  have HL := Lib.hid (fun W => lisAt_any f a ac d dc i W)
  have HF := Lib.hid (show rightB f r i = (decide (f.To ≤ r) || !atB f i) from rfl)
  generalize atB f i = b at *
  cases h : decide (f.To ≤ r)
  · rw [h] at HF
    go_enter Try.func26, Try.ntmps26
    go_wp2_with fail
    refine (HL.out _).mono ?_
    rintro e wn ⟨rfl, hb⟩
    go_wp2
    go_ret
    exact ⟨ret_bool (by rw [HF.out]; simp), hB0.trans (hb.mono hB0.size)⟩
  · rw [h] at HF
    go_enter Try.func26, Try.ntmps26
    go_wp2
    go_ret
    exact ⟨ret_bool (by rw [HF.out]; simp), hB0⟩

theorem emod_at {α : Type} (xs : List α) (n : Int) (h : 0 < xs.length) : ∃ k : Nat, n % (xs.length : Int) = k ∧ k < xs.length := by
  have h1 := Int.emod_nonneg n (show (xs.length : Int) ≠ 0 by omega)
  have h2 := Int.emod_lt_of_pos n (show 0 < (xs.length : Int) by omega)
  exact ⟨(n % (xs.length : Int)).toNat, by omega, by omega⟩

theorem lpickI_any (a : Option Addr) (D : List Int) (cap : Nat) (n : Int) (w : World) (hD : Row w a D) (h0 : 0 < D.length) (hl : D.length ≤ 1000000) :
    Calls Try.prog 34 #[.slice a D.length cap, .int .i64 n] w fun e w' => e = .returned (.int .i64 (pickI D n)) ∧ w = w' := by
  obtain ⟨k, hk, hk2⟩ := emod_at D n h0
  have HR := Lib.hid (fun W => lrem_any n D.length W (by omega) (by omega))
  rw [hk] at HR
  obtain ⟨b, off, rfl, hlt, hc, _, _⟩ := hD.get k hk2
  have HF := Lib.hid (show pickI D n = D[k] by unfold pickI; rw [hk]; simp [hk2])
  clear hk
  go_enter Try.func34, Try.ntmps34
  go_wp2_with fail
  refine (HR.out _).mono ?_
  rintro e wl ⟨rfl, rfl⟩
  go_wp2
  go_ret
  exact ⟨ret_int HF.out.symm, rfl⟩

theorem lpickA_any (a : Option Addr) (A : List Ac) (cap : Nat) (n : Int) (w : World) (hA : RowA w a A) (h0 : 0 < A.length) (hl : A.length ≤ 1000000) :
    Calls Try.prog 41 #[.slice a A.length cap, .int .i64 n] w fun e w' => e = .returned (.agg #[.int .i64 (pickA A n).H, .int .i64 (pickA A n).N, .string ⟨(pickA A n).T.toArray⟩]) ∧ Below w.heap.size w w' := by
  obtain ⟨k, hk, hk2⟩ := emod_at A n h0
  have HR := Lib.hid (fun W => lrem_any n A.length W (by omega) (by omega))
  rw [hk] at HR
  obtain ⟨b, off, rfl, hlt, c1, c2, c3, _, _⟩ := hA.get k hk2
  have HF := Lib.hid (show pickA A n = A[k] by unfold pickA; rw [hk]; simp [hk2])
  rw [HF.out]
  clear hk
  generalize A[k] = t at *
  go_enter Try.func41, Try.ntmps41
  go_wp2_with fail
  refine (HR.out _).mono ?_
  rintro e wl ⟨rfl, rfl⟩
  go_wp2
  refine bodyPost_ret (v := .agg #[.int .i64 t.H, .int .i64 t.N, .string ⟨t.T.toArray⟩]) (by simp [results, Try.results41, go_sem]) rfl ⟨rfl, alloc_below _ _⟩

set_option maxHeartbeats 1600000 in
theorem lDev_any (c : Cf) (ca : Option Addr) (cc : Nat) (f : Fa) (a : Option Addr) (ac : Nat) (d : Option Addr) (dc : Nat) (r o i dev : Int) (w : World) (hc : c.Ok) (hD : Row w d f.D) (hl : f.D.length ≤ 1000000) (r0 : 0 ≤ r) (r1 : r ≤ 1000000) (i0 : 0 ≤ i) (i1 : i ≤ 1000000) :
    Calls Try.prog 16 #[.agg #[.int .i64 c.N, .int .i64 c.Pi, .int .i64 c.E, .int .i64 c.G, .int .i64 c.F, .slice ca c.P.length cc], .agg #[.int .i64 f.K, .int .i64 f.At, .int .i64 f.F, .int .i64 f.To, .slice a f.A.length ac, .slice d f.D.length dc], .int .i64 r, .int .i64 o, .int .i64 i, .int .i64 dev] w fun e w' => e = .returned (.int .i64 (devL c f r o i dev)) ∧ Below w.heap.size w w' := by
  have hB0 : Below w.heap.size w ((w.alloc (.cells #[.int .i64 c.N, .int .i64 c.Pi, .int .i64 c.E, .int .i64 c.G, .int .i64 c.F, .slice ca c.P.length cc] 24)).alloc (.cells #[.int .i64 f.K, .int .i64 f.At, .int .i64 f.F, .int .i64 f.To, .slice a f.A.length ac, .slice d f.D.length dc] 27)) := (alloc_below w _).alloc (by simp) _
  have hC : Blk ((w.alloc (.cells #[.int .i64 c.N, .int .i64 c.Pi, .int .i64 c.E, .int .i64 c.G, .int .i64 c.F, .slice ca c.P.length cc] 24)).alloc (.cells #[.int .i64 f.K, .int .i64 f.At, .int .i64 f.F, .int .i64 f.To, .slice a f.A.length ac, .slice d f.D.length dc] 27)) w.heap.size 24 (confBox c ca cc) := (Blk.new w _ _).alloc _
  have hF : Blk ((w.alloc (.cells #[.int .i64 c.N, .int .i64 c.Pi, .int .i64 c.E, .int .i64 c.G, .int .i64 c.F, .slice ca c.P.length cc] 24)).alloc (.cells #[.int .i64 f.K, .int .i64 f.At, .int .i64 f.F, .int .i64 f.To, .slice a f.A.length ac, .slice d f.D.length dc] 27)) (w.heap.size + 1) 27 (faBox f a ac d dc) := Blk.newAt _ _ (by simp)
  have HA := Lib.hid (fun W => lisAt_any f a ac d dc o W)
  by_cases h1 : r < f.F
  · have HF := Lib.hid (show devL c f r o i dev = dev by unfold devL; rw [if_pos (.inl h1)])
    have d1 : decide (r < f.F) = true := by simpa using h1
    clear h1
    go_enter Try.func16, Try.ntmps16
    go_wp2
    go_ret
    exact ⟨ret_int HF.out.symm, hB0⟩
  · have d1 : decide (r < f.F) = false := by simpa using h1
    by_cases h2 : f.To ≤ r
    · have HF := Lib.hid (show devL c f r o i dev = dev by unfold devL; rw [if_pos (.inr (.inl h2))])
      have d2 : decide (f.To ≤ r) = true := by simpa using h2
      clear h1 h2
      go_enter Try.func16, Try.ntmps16
      go_wp2
      go_ret
      exact ⟨ret_int HF.out.symm, hB0⟩
    · have d2 : decide (f.To ≤ r) = false := by simpa using h2
      cases h3 : atB f o
      · have HF := Lib.hid (show devL c f r o i dev = dev by unfold devL; rw [if_pos (.inr (.inr h3))])
        rw [h3] at HA
        clear h1 h2 h3
        go_enter Try.func16, Try.ntmps16
        go_wp2_with fail
        refine (HA.out _).mono ?_
        rintro e wn ⟨rfl, hb⟩
        go_wp2
        go_ret
        exact ⟨ret_int HF.out.symm, hB0.trans (hb.mono hB0.size)⟩
      · have HF := Lib.hid (show devL c f r o i dev = if f.D = [] then 0 else clampI (3 * windowI c) (pickI f.D (13 * r + i)) by unfold devL; rw [if_neg (by simp [h3]; omega)])
        rw [h3] at HA
        clear h3
        by_cases h4 : f.D.length = 0
        · have HF2 := Lib.hid (show devL c f r o i dev = 0 by rw [HF.out, if_pos (List.eq_nil_of_length_eq_zero h4)])
          have d4 : ((f.D.length : Int) == 0) = true := by simpa using h4
          clear h1 h2 h4
          go_enter Try.func16, Try.ntmps16
          go_wp2_with fail
          refine (HA.out _).mono ?_
          rintro e wn ⟨rfl, hb⟩
          replace hB0 := hB0.trans (hb.mono hB0.size)
          replace hF := hF.later hb
          have hQ := hF.at
          unfold faBox at hQ
          clear hb
          go_wp2
          go_ret
          exact ⟨ret_int HF2.out.symm, hB0⟩
        · have HF2 := Lib.hid (show devL c f r o i dev = clampI (3 * windowI c) (pickI f.D (13 * r + i)) by rw [HF.out, if_neg (by intro h; rw [h] at h4; simp at h4)])
          have d4 : ((f.D.length : Int) == 0) = false := by simpa using h4
          have HW := Lib.hid (fun W => cwindow_any c ca cc W hc)
          have HP := Lib.hid (fun W (h : Row W d f.D) => lpickI_any d f.D dc (13 * r + i) W h (by omega) hl)
          have hw : 0 ≤ windowI c ∧ windowI c ≤ 20000 := by unfold windowI; have := hc.p0; have := hc.p1; have := hc.e0; have := hc.g0; omega
          have HCl := Lib.hid (show clampI (3 * windowI c) (pickI f.D (13 * r + i)) = max (-(3 * windowI c)) (min (pickI f.D (13 * r + i)) (3 * windowI c)) from rfl)
          have hp : -9223372036854775808 ≤ pickI f.D (13 * r + i) ∧ pickI f.D (13 * r + i) ≤ 9223372036854775807 := by
            obtain ⟨k, hk, hk2⟩ := emod_at f.D (13 * r + i) (by omega)
            unfold pickI
            rw [hk]
            simp [hk2]
            exact hD.2.1 _ (List.getElem_mem hk2)
          clear h1 h2 h4
          generalize windowI c = win at *
          generalize pickI f.D (13 * r + i) = v at *
          obtain ⟨hw1, hw2⟩ := hw
          obtain ⟨hp1, hp2⟩ := hp
          go_enter Try.func16, Try.ntmps16
          go_wp2_with fail
          refine (HA.out _).mono ?_
          rintro e wn ⟨rfl, hb⟩
          replace hB0 := hB0.trans (hb.mono hB0.size)
          replace hF := hF.later hb
          replace hC := hC.later hb
          have hQ := hF.at
          unfold faBox at hQ
          have hQc := hC.at
          unfold confBox at hQc
          clear hb
          go_wp2_with fail
          refine (HW.out _).mono ?_
          rintro e wm ⟨rfl, hb⟩
          clear hQ hQc
          replace hB0 := hB0.trans (hb.mono hB0.size)
          replace hF := hF.later hb
          have hQ := hF.at
          unfold faBox at hQ
          clear hb
          go_wp2_with fail
          refine (HP.out _ (hD.later hB0)).mono ?_
          rintro e wl ⟨rfl, rfl⟩
          go_wp2
          all_goals
            go_ret
            refine ⟨ret_int (Eq.symm (HF2.out.trans (HCl.out.trans ?_))), hB0⟩
            omega

end Go.Proofs.Ytbghpkdkfbpmeaa
/-
  math/bits.Mul, by the shelf's contract.
-/
namespace Go.Proofs
open Go.Shelf
set_option maxRecDepth 100000

def Try.mul6_ren : Go.Shelf.Ren := ⟨fun | 212 => 61 | 263 => 73 | 264 => 74 | n => n, fun | 46 => 68 | 51 => 113 | 146 => 114 | 53 => 116 | 148 => 117 | n => n, fun | n => n⟩
theorem Try.mul6 : Go.Proofs.Lays.n212 Try.prog Try.mul6_ren := {
  mixed := by kernel_rfl
  f212 := Try.func61.trans (congrArg some (by kernel_rfl))
  f263 := Try.func73.trans (congrArg some (by kernel_rfl))
  f264 := Try.func74.trans (congrArg some (by kernel_rfl))
  t46 := Try.underlying68
  a46 := Try.isAgg68
  z46 := Try.sizeOf68
  v46 := Try.zeroValue68
  t51 := Try.underlying113
  a51 := Try.isAgg113
  z51 := Try.sizeOf113
  v51 := Try.zeroValue113
  t53 := Try.underlying116
  a53 := Try.isAgg116
  z53 := Try.sizeOf116
  v53 := Try.zeroValue116
  t146 := Try.underlying114
  a146 := Try.isAgg114
  z146 := Try.sizeOf114
  v146 := Try.zeroValue114
  t148 := Try.underlying117
  a148 := Try.isAgg117
  z148 := Try.sizeOf117
  v148 := Try.zeroValue117 }
open Go.RowKit Go.Lib in
theorem Try.bits_Mul6 (x y : Nat) (hx : x < 18446744073709551616) (hy : y < 18446744073709551616) (w : World) :
    Calls Try.prog 61 #[.int .u64 x, .int .u64 y] w fun e w' => e = .returned (.tuple #[.int .u64 ((x * y / 18446744073709551616 : Nat) : Int), .int .u64 ((x * y % 18446744073709551616 : Nat) : Int)]) ∧ w' = w := Any.bits_Mul Try.mul6 x y hx hy w

end Go.Proofs
/-
  slices.Repeat of one item: a row of so many of it.
-/
namespace Go.Proofs.Ytbghpkdkfbpmeaa
open Go.RowKit Plait
set_option maxRecDepth 100000
set_option linter.unusedVariables false

/-- copy between rows of items, into a row that is known whole. -/
theorem run_copy_items (w : World) (ty : TypeId) (g o dLen dCap : Nat) (a : Addr) (sLen sCap : Nat) (cur : Array Value) (t : TypeId) (cs : List Value)
    (hg : w.heap[g]? = some (.cells cur t (0, 0))) (hn : cs.length = Nat.min sLen dLen * 2)
    (hsrc : ∀ j v, cs[j]? = some v → w.cell? (a.add j) = some v) (hfit : o + cs.length ≤ cur.size) (h1 : ∀ v ∈ cs, v.oneCell' = true) :
    (Builtin.copy_ #[80, 80] ty #[.slice (some ⟨g, o, none⟩) dLen dCap, .slice (some a) sLen sCap]).run Try.prog w =
      .ok (goInt (Nat.min sLen dLen)) (w.setRow g (cur.toList.take o ++ cs ++ cur.toList.drop (o + cs.length)).toArray) := by
  have hl := run_loadCells_list (P := Try.prog) w a cs hsrc
  have hst := run_storeCells_at Try.prog g o t cs 0 cur w hg (by simpa using hfit) h1
  obtain ⟨i, hi, hz0, hz1, hz2⟩ := info_parts infoItem
  simp [Builtin.copy_, run_underlying Try.underlying80, Builtin.lenOf, Builtin.firstCells, sizeOf, typeInfo, hi, hz1, ← hn, hl, hst]

theorem itCells_rep (t : It) (n k : Nat) : itCells (List.replicate (n + k) t) = itCells (List.replicate n t) ++ itCells (List.replicate k t) := by
  rw [← itCells_append, List.replicate_append_replicate]

/-- So far filled. -/
structure RepAt (t : It) (m g n : Nat) (W : World) : Prop where
  ex : ∃ cur : Array Value, Blk W g 79 cur ∧ cur.size = m * 2 ∧ cur.toList.take (n * 2) = itCells (List.replicate n t)

theorem RepAt.row {t : It} {m g : Nat} {W : World} (h : RepAt t m g m W) (hm : m ≤ 1000000) (hK : inI t.K) (hV : inI t.V) : RowT W (some ⟨g, 0, none⟩) (List.replicate m t) := by
  obtain ⟨cur, hk, hs, hc⟩ := h.ex
  refine ⟨by simp; omega, fun u hu => by rw [List.eq_of_mem_replicate hu]; exact ⟨hK, hV⟩, .inr ⟨g, 0, rfl, hk.lt, fun i hi => ?_⟩⟩
  have hl : cur.toList = itCells (List.replicate m t) := by rw [← hc, List.take_of_length_le (by simp; omega)]
  have h2 := itCells_get _ i hi
  constructor
  · rw [hk.at, ← Array.getElem?_toList, hl, Nat.zero_add]; exact h2.1
  · rw [hk.at, ← Array.getElem?_toList, hl, Nat.zero_add]; exact h2.2

/-- One step: k items more. -/
theorem rep_step {t : It} {m n k : Nat} {cur : Array Value} (hs : cur.size = m * 2) (hc : cur.toList.take (n * 2) = itCells (List.replicate n t)) (hk : n + k ≤ m) :
    (cur.toList.take (n * 2) ++ itCells (List.replicate k t) ++ cur.toList.drop (n * 2 + (itCells (List.replicate k t)).length)).toArray.size = m * 2 ∧
    (cur.toList.take (n * 2) ++ itCells (List.replicate k t) ++ cur.toList.drop (n * 2 + (itCells (List.replicate k t)).length)).toArray.toList.take ((n + k) * 2) = itCells (List.replicate (n + k) t) := by
  have hl : (itCells (List.replicate k t)).length = k * 2 := by rw [itCells_len]; simp
  have hl2 : (itCells (List.replicate n t)).length = n * 2 := by rw [itCells_len]; simp
  constructor
  · simp [hl]; omega
  · simp only [hc]
    rw [List.take_append_of_le_length (by rw [List.length_append, hl, hl2]; omega), List.take_of_length_le (by rw [List.length_append, hl, hl2]; omega), ← itCells_rep]

theorem made_items (m : Nat) (hm : m ≤ 1000000) : ∃ M : Array Value, M.size = m * 2 ∧ ∀ W : World, (Instr.makeSlice 80 (.int .i64 (m : Int)) (.int .i64 (m : Int))).run Try.prog W = .ok (.slice (some ⟨W.heap.size, 0, none⟩) m m) (W.alloc (.cells M 79)) := by
  obtain ⟨i, hi, hz0, hz1, hz2⟩ := info_parts infoItem
  refine ⟨madeCells (Value.agg #[.int .i64 0, .int .i64 0]).cells (((m : Nat) : Int).toNat * i.size), by rw [size_madeCells, hz1]; simp, fun W => ?_⟩
  have h := run_make (P := Try.prog) W 80 79 i (.agg #[.int .i64 0, .int .i64 0]) Try.underlying80 hi hz0 .i64 .i64 (m : Int) (m : Int) (by omega) (by omega) (by rw [hz2]; omega) (by omega)
  simpa using h

theorem setRow_blk {w : World} {g : Nat} {t : TypeId} {cur : Array Value} (h : Blk w g t cur) (cs : Array Value) : Blk (w.setRow g cs) g t cs := setRow_heap w g cur cs t (0, 0) h

/-- A copy of k items more into the row. -/
theorem rep_copy {t : It} {m g n k : Nat} {W : World} (h : RepAt t m g n W) (a : Addr) (dLen dCap sLen sCap : Nat) (hk : k = Nat.min sLen dLen) (hnk : n + k ≤ m) (hsrc : ∀ j, j < k → W.cell? (a.add (j * 2)) = some (.int .i64 t.K) ∧ W.cell? (a.add (j * 2 + 1)) = some (.int .i64 t.V)) :
    ∃ W' : World, (∀ ty, (Builtin.copy_ #[80, 80] ty #[.slice (some ⟨g, n * 2, none⟩) dLen dCap, .slice (some a) sLen sCap]).run Try.prog W = .ok (.int .i64 (k : Int)) W') ∧ RepAt t m g (n + k) W' ∧ ∀ B w0, Below B w0 W → B ≤ g → Below B w0 W' := by
  obtain ⟨cur, hB, hs, hc⟩ := h.ex
  have hl : (itCells (List.replicate k t)).length = k * 2 := by rw [itCells_len]; simp
  have hst := rep_step hs hc hnk (t := t)
  refine ⟨W.setRow g (cur.toList.take (n * 2) ++ itCells (List.replicate k t) ++ cur.toList.drop (n * 2 + (itCells (List.replicate k t)).length)).toArray, fun ty => ?_, ⟨_, setRow_blk hB _, hst.1, hst.2⟩, fun B w0 hb hBg => hb.trans ⟨rfl, rfl, rfl, by simp [World.setRow], fun j hj => setRow_other W g j _ (by omega)⟩⟩
  rw [run_copy_items W ty g (n * 2) dLen dCap a sLen sCap cur 79 (itCells (List.replicate k t)) hB (by rw [hl, hk]) ?_ (by rw [hl, hs]; omega) (itCells_one _), ← hk]
  · rfl
  · intro j v hj
    have hlt : j < k * 2 := by
      rcases Nat.lt_or_ge j (k * 2) with h' | h'
      · exact h'
      · rw [List.getElem?_eq_none (by omega)] at hj; cases hj
    obtain ⟨q, hq⟩ : ∃ q, j = q * 2 ∨ j = q * 2 + 1 := ⟨j / 2, by omega⟩
    have hg := itCells_get (List.replicate k t) q (by simp; omega)
    rcases hq with rfl | rfl
    · rw [hg.1] at hj
      rw [← hj, List.getElem_replicate]
      exact (hsrc q (by omega)).1
    · rw [hg.2] at hj
      rw [← hj, List.getElem_replicate]
      exact (hsrc q (by omega)).2

theorem RepAt.cells {t : It} {m g n : Nat} {W : World} (h : RepAt t m g n W) (j : Nat) (hj : j < n) : W.cell? ⟨g, j * 2, none⟩ = some (.int .i64 t.K) ∧ W.cell? ⟨g, j * 2 + 1, none⟩ = some (.int .i64 t.V) := by
  obtain ⟨cur, hk, hs, hc⟩ := h.ex
  have hg := itCells_get (List.replicate n t) j (by simpa using hj)
  rw [List.getElem_replicate, ← hc] at hg
  rw [List.getElem?_take, if_pos (by omega), List.getElem?_take, if_pos (by omega)] at hg
  exact ⟨by rw [hk.at, ← Array.getElem?_toList]; exact hg.1, by rw [hk.at, ← Array.getElem?_toList]; exact hg.2⟩
theorem RepAt.drew {t : It} {m g n : Nat} {W : World} (h : RepAt t m g n W) : RepAt t m g n W.drew := ⟨h.ex⟩

set_option maxHeartbeats 1600000 in
theorem lrepeat_any (t : It) (H c m : Nat) (w : World) (hH : Blk w H 79 #[.int .i64 t.K, .int .i64 t.V]) (hm : m ≤ 1000) (hK : inI t.K) (hV : inI t.V) :
    Calls Try.prog 50 #[.slice (some ⟨H, 0, none⟩) 1 c, .int .i64 m] w fun e w' => ∃ (a : Option Addr) (cap : Nat), e = .returned (.slice a m cap) ∧ RowT w' a (List.replicate m t) ∧ (∀ x, a = some x → w.heap.size ≤ x.block) ∧ Below w.heap.size w w' := by
  obtain ⟨M, hM, hmake⟩ := made_items m (by omega)
  have hmul := Lib.hid (fun W => Try.bits_Mul6 1 m (by omega) (by omega) W)
  have e1 : 1 * m / 18446744073709551616 = 0 := by omega
  have e2 : 1 * m % 18446744073709551616 = m := by omega
  rw [e1, e2] at hmul
  have hHa := (hH.alloc (.cells M 79)).at
  obtain ⟨k0, hk0⟩ : ∃ k, k = Nat.min 1 m := ⟨_, rfl⟩
  have hk1 : k0 ≤ 1 := by rw [hk0]; exact Nat.min_le_left _ _
  have hk2 : k0 ≤ m := by rw [hk0]; exact Nat.min_le_right _ _
  have hk3 : m = 0 ∨ 0 < k0 := by
    rcases Nat.eq_zero_or_pos m with h | h
    · exact .inl h
    · exact .inr (by rw [hk0]; exact Nat.lt_min.2 ⟨by omega, h⟩)
  have hR0 : RepAt t m w.heap.size 0 (w.alloc (.cells M 79)) := ⟨M, Blk.new w _ _, hM, by simp [itCells]⟩
  obtain ⟨W1, hcopy, hR1, hB1⟩ := rep_copy hR0 ⟨H, 0, none⟩ m m 1 c hk0 (by omega) (fun j hj => by
    have : j = 0 := by omega
    subst this
    rw [addr_at, addr_at]
    exact ⟨by rw [hHa]; rfl, by rw [hHa]; rfl⟩)
  have hB := hB1 _ _ (alloc_below w (.cells M 79)) (Nat.le_refl _)
  rw [Nat.zero_mul] at hcopy
  rw [Nat.zero_add] at hR1
  clear hM e1 e2 hHa hR0 hB1 hk0 hH
  go_enter Try.func50, Try.ntmps50
  go_wp2_with fail
  refine (hmul.out _).mono ?_
  rintro e wl ⟨rfl, rfl⟩
  go_wp2_with fail
  clear hcopy hmake hmul
  go_loopw [8] (fun v w' => ∃ n : Nat, n ≤ m ∧ (m = 0 ∨ 0 < n) ∧ v = .int .i64 n ∧ RepAt t m wl.heap.size n w' ∧ Below wl.heap.size wl w') (fun v _ => m - (intOf v).toNat)
  case atStart => exact ⟨k0, hk2, hk3, rfl, hR1, hB⟩
  case round =>
    obtain ⟨n, hn, hn0, rfl, hR, hb⟩ := hrel
    clear hB hR1
    by_cases hlt : n < m
    · have d1 : decide ((n : Int) < (m : Int)) = true := by simp; omega
      obtain ⟨k, hk⟩ : ∃ k, k = Nat.min n (m - n) := ⟨_, rfl⟩
      have hk5 : k ≤ m - n := by rw [hk]; exact Nat.min_le_right _ _
      have hk1 : n + k ≤ m := by omega
      have hk4 : k ≤ n := by rw [hk]; exact Nat.min_le_left _ _
      have hk2 : 0 < k := by rw [hk]; exact Nat.lt_min.2 ⟨by omega, by omega⟩
      obtain ⟨W2, hcopy, hR2, hB2⟩ := rep_copy hR.drew ⟨wl.heap.size, 0, none⟩ (m - n) (m - n) n m hk hk1 (fun j hj => by
        rw [addr_at, addr_at, Nat.zero_add, Nat.zero_add]
        exact hR.drew.cells j (by omega))
      have hb2 := hB2 _ _ hb.drew (Nat.le_refl _)
      clear hB2 hk
      go_wp2_with fail
      have z1 : IntKind.i64.wrap ((n : Int) + (k : Int)) = (n : Int) + k := wrap_in _ (by omega) (by omega)
      have hne : (m = n) = False := by simp; omega
      go_region_law (fail)
      all_goals go_simp
      all_goals go_wp2
      all_goals go_roundw
      case rel => exact ⟨n + k, by omega, .inr (by omega), by go_num, hR2, hb2⟩
      case measure => simp [intOf]; omega
    · have : n = m := by omega
      subst this
      go_wp2
      go_ret
      exact ⟨_, _, rfl, hR.row (by omega) hK hV, fun x hx => by injection hx with hx; subst hx; exact Nat.le_refl _, hb⟩

end Go.Proofs.Ytbghpkdkfbpmeaa

/-
  Contracts of package fault, first part: remainders, picks, where a locus is.
-/
import Derived.Test.YtbghpkdkfbpmeaaGreatK11
import Derived.Stop.Asserts
import Derived.Shelf.Bits.Mul64
import Derived.Test.YtbghpkdkfbpmeaaGreatProg
import Derived.Laws.CopyRow
import Derived.Deep.RegionLaw
namespace Go.Proofs.YtbghpkdkfbpmeaaGreat
open Go.RowKit Plait
set_option maxRecDepth 100000
set_option linter.unusedVariables false

theorem lrem_any (a n : Int) (w : World) (hn : 0 < n) (hn2 : n ≤ 1099511627776) :
    Calls Tryz.prog 55 #[.int .i64 a, .int .i64 n] w fun e w' => e = .returned (.int .i64 (a % n)) ∧ w = w' := by
  have b1 : 0 ≤ a % n := Int.emod_nonneg _ (by omega)
  have b2 : a % n < n := Int.emod_lt_of_pos _ hn
  by_cases h0 : 0 ≤ a
  · go_enter Tryz.func55, Tryz.ntmps55
    go_wp2
    go_ret
    exact ⟨rfl, rfl⟩
  · have h1 : a.tmod n = -((-a) % n) := by
      rw [show a = -(-a) by omega, Int.neg_tmod, Int.tmod_eq_emod_of_nonneg (by omega)]; simp
    have c1 : 0 ≤ (-a) % n := Int.emod_nonneg _ (by omega)
    have c2 : (-a) % n < n := Int.emod_lt_of_pos _ hn
    by_cases hz : (-a) % n = 0
    · have h2 : a.tmod n = 0 := by rw [h1, hz]; rfl
      have HF := Lib.hid (show (0 : Int) = a % n by
        have : n ∣ -a := Int.dvd_of_emod_eq_zero hz
        exact (Int.emod_eq_zero_of_dvd (Int.dvd_neg.1 this)).symm)
      clear h1 hz c1 c2 b1 b2
      go_enter Tryz.func55, Tryz.ntmps55
      go_wp2
      go_ret
      exact ⟨ret_int HF.out, rfl⟩
    · obtain ⟨r, hr⟩ : ∃ r, r = (-a) % n := ⟨_, rfl⟩
      rw [← hr] at h1 c1 c2 hz
      have HF := Lib.hid (show -r + n = a % n by
        have e := Int.emod_add_mul_ediv (-a) n
        rw [← hr] at e
        have e2 : a = (-r + n) + n * (-((-a) / n) - 1) := by rw [Int.mul_sub, Int.mul_neg]; omega
        rw [e2, Int.add_mul_emod_self_left]
        exact (Int.emod_eq_of_lt (by omega) (by omega)).symm)
      clear hr b1 b2
      go_enter Tryz.func55, Tryz.ntmps55
      go_wp2
      go_ret
      exact ⟨ret_int HF.out, rfl⟩

theorem lvalue_any (n : Int) (w : World) :
    Calls Tryz.prog 59 #[.int .i64 n] w fun e w' => e = .returned (.agg #[.int .i64 2, .int .i64 (n % 256)]) ∧ Below w.heap.size w w' := by
  have hB : Below w.heap.size w (w.alloc (.cells #[.int .i64 0, .int .i64 0] 29)) := alloc_below w _
  have hK : Blk (w.alloc (.cells #[.int .i64 0, .int .i64 0] 29)) w.heap.size 29 #[.int .i64 0, .int .i64 0] := Blk.new w _ _
  have hQ := hK.at
  have hZ := hK.frozen
  go_enter Tryz.func59, Tryz.ntmps59
  go_wp2_with fail
  refine (lrem_any n 256 _ (by omega) (by omega)).mono ?_
  rintro e wl ⟨rfl, rfl⟩
  go_wp2
  refine bodyPost_ret (v := .agg #[.int .i64 2, .int .i64 (n % 256)]) (by simp [results, Tryz.results59, go_sem]) rfl ⟨rfl, alloc_below _ _⟩

theorem lisBelow_any (a b : Int) (w : World) :
    Calls Tryz.prog 127 #[.int .i64 a, .int .i64 b] w fun e w' => e = .returned (.bool (decide (0 ≤ b) && decide (b < a))) ∧ w = w' := by
  cases h : decide (0 ≤ b)
  · go_enter Tryz.func127, Tryz.ntmps127
    go_wp2
    go_ret
    exact ⟨rfl, rfl⟩
  · go_enter Tryz.func127, Tryz.ntmps127
    go_wp2
    go_ret
    exact ⟨ret_bool (by simp), rfl⟩

theorem lnowhere_exists (x n : Int) (w : World) :
    Calls Tryz.prog 122 #[.int .i64 x, .int .i64 n] w fun e w' => e = .returned (.bool (x == 0)) ∧ w = w' := by
  go_enter Tryz.func122, Tryz.ntmps122
  go_wp2
  go_ret
  exact ⟨rfl, rfl⟩

theorem latNode_exists (x n : Int) (w : World) :
    Calls Tryz.prog 124 #[.int .i64 x, .int .i64 n] w fun e w' => e = .returned (.bool (decide (0 ≤ x) && decide (x < n))) ∧ w = w' := by
  go_enter Tryz.func124, Tryz.ntmps124
  go_wp2_with fail
  refine (lisBelow_any n x _).mono ?_
  rintro e wl ⟨rfl, rfl⟩
  go_wp2
  go_ret
  exact ⟨rfl, rfl⟩

theorem latLink_exists (x n : Int) (w : World) (h0 : 0 ≤ n) (h1 : n ≤ 1099511627776) :
    Calls Tryz.prog 128 #[.int .i64 x, .int .i64 n] w fun e w' => e = .returned (.bool (decide (0 ≤ x) && decide (x < 2 * n))) ∧ w = w' := by
  go_enter Tryz.func128, Tryz.ntmps128
  go_wp2_with fail
  refine (lisBelow_any (2 * n) x _).mono ?_
  rintro e wl ⟨rfl, rfl⟩
  go_wp2
  go_ret
  exact ⟨rfl, rfl⟩

theorem lnowhere_sends (x n a b : Int) (w : World) :
    Calls Tryz.prog 123 #[.int .i64 x, .int .i64 n, .int .i64 a, .int .i64 b] w fun e w' => e = .returned (.bool false) ∧ w = w' := by
  go_enter Tryz.func123, Tryz.ntmps123
  go_wp2
  go_ret
  exact ⟨rfl, rfl⟩

theorem latNode_isOf (x i : Int) (w : World) :
    Calls Tryz.prog 125 #[.int .i64 x, .int .i64 i] w fun e w' => e = .returned (.bool (x == i)) ∧ w = w' := by
  go_enter Tryz.func125, Tryz.ntmps125
  go_wp2
  go_ret
  exact ⟨rfl, rfl⟩

theorem latNode_sends (x n a b : Int) (w : World) :
    Calls Tryz.prog 126 #[.int .i64 x, .int .i64 n, .int .i64 a, .int .i64 b] w fun e w' => e = .returned (.bool (x == a)) ∧ w = w' := by
  go_enter Tryz.func126, Tryz.ntmps126
  go_wp2_with fail
  refine (latNode_isOf x a _).mono ?_
  rintro e wl ⟨rfl, rfl⟩
  go_wp2
  go_ret
  exact ⟨rfl, rfl⟩

theorem latLink_sends (x n a b : Int) (w : World) (hn : 0 < n) (hn2 : n ≤ 1000000) (ha : inI a) (hb : inI b) :
    Calls Tryz.prog 129 #[.int .i64 x, .int .i64 n, .int .i64 a, .int .i64 b] w fun e w' => e = .returned (.bool ((linkI n a b).2 && (linkI n a b).1 == x)) ∧ Below w.heap.size w w' := by
  have HL := Lib.hid (fun W => gLink_any n a b W hn hn2 ha hb)
  generalize linkI n a b = p at *
  obtain ⟨k, is⟩ := p
  cases is
  · go_enter Tryz.func129, Tryz.ntmps129
    go_wp2_with fail
    refine (HL.out _).mono ?_
    rintro e wn ⟨rfl, hb⟩
    go_wp2
    go_ret
    exact ⟨rfl, hb⟩
  · go_enter Tryz.func129, Tryz.ntmps129
    go_wp2_with fail
    refine (HL.out _).mono ?_
    rintro e wn ⟨rfl, hb⟩
    go_wp2
    go_ret
    exact ⟨ret_bool (by simp), hb⟩

/-- Where a locus is, as a value. -/
def locV (f : Fa) : Value := if f.K = 0 then .iface 89 (.int .i64 f.At) else if f.K = 1 then .iface 90 (.int .i64 f.At) else if f.K = 2 then .iface 91 (.int .i64 f.At) else .iface 89 (.int .i64 0)

theorem ret_loc {a b : Value} {p q : Bool} (h : a = b) (h' : p = q) : Ending.returned (.tuple #[a, .bool p]) = .returned (.tuple #[b, .bool q]) := by rw [h, h']

set_option maxHeartbeats 800000 in
theorem llocusOf_any (f : Fa) (a : Option Addr) (ac : Nat) (d : Option Addr) (dc : Nat) (w : World) :
    Calls Tryz.prog 40 #[.agg #[.int .i64 f.K, .int .i64 f.At, .int .i64 f.F, .int .i64 f.To, .slice a f.A.length ac, .slice d f.D.length dc]] w fun e w' => e = .returned (.tuple #[locV f, .bool (knownL f)]) ∧ Below w.heap.size w w' := by
  by_cases k0 : f.K = 0
  · have HV := Lib.hid (show locV f = .iface 89 (.int .i64 f.At) by unfold locV; rw [if_pos k0])
    have HF := Lib.hid (show knownL f = true by unfold knownL; simp [k0])
    have c0 : (f.K == 0) = true := by simpa using k0
    clear k0
    go_enter Tryz.func40, Tryz.ntmps40
    go_wp2
    go_ret2
    exact ⟨ret_loc HV.out.symm HF.out.symm, alloc_below _ _⟩
  · have c0 : (f.K == 0) = false := by simpa using k0
    by_cases k1 : f.K = 1
    · have HV := Lib.hid (show locV f = .iface 90 (.int .i64 f.At) by unfold locV; rw [if_neg k0, if_pos k1])
      have HF := Lib.hid (show knownL f = true by unfold knownL; simp [k1])
      have c1 : (f.K == 1) = true := by simpa using k1
      clear k0 k1
      go_enter Tryz.func40, Tryz.ntmps40
      go_wp2
      go_ret2
      exact ⟨ret_loc HV.out.symm HF.out.symm, alloc_below _ _⟩
    · have c1 : (f.K == 1) = false := by simpa using k1
      by_cases k2 : f.K = 2
      · have HV := Lib.hid (show locV f = .iface 91 (.int .i64 f.At) by unfold locV; rw [if_neg k0, if_neg k1, if_pos k2])
        have HF := Lib.hid (show knownL f = true by unfold knownL; simp [k2])
        have c2 : (f.K == 2) = true := by simpa using k2
        clear k0 k1 k2
        go_enter Tryz.func40, Tryz.ntmps40
        go_wp2
        go_ret2
        exact ⟨ret_loc HV.out.symm HF.out.symm, alloc_below _ _⟩
      · have HV := Lib.hid (show locV f = .iface 89 (.int .i64 0) by unfold locV; rw [if_neg k0, if_neg k1, if_neg k2])
        have HF := Lib.hid (show knownL f = false by unfold knownL; simp [k0, k1, k2])
        have c2 : (f.K == 2) = false := by simpa using k2
        clear k0 k1 k2
        go_enter Tryz.func40, Tryz.ntmps40
        go_wp2
        go_ret2
        exact ⟨ret_loc HV.out.symm HF.out.symm, alloc_below _ _⟩

theorem lroundsHold_any (f : Fa) (a : Option Addr) (ac : Nat) (d : Option Addr) (dc : Nat) (w : World) :
    Calls Tryz.prog 50 #[.agg #[.int .i64 f.K, .int .i64 f.At, .int .i64 f.F, .int .i64 f.To, .slice a f.A.length ac, .slice d f.D.length dc]] w fun e w' => e = .returned (.bool (roundsL f)) ∧ Below w.heap.size w w' := by
  have HF := Lib.hid (show roundsL f = (decide (0 ≤ f.F) && decide (f.F ≤ f.To) && decide (f.To ≤ 1000)) from rfl)
  cases h : decide (0 ≤ f.F)
  · rw [h] at HF
    go_enter Tryz.func50, Tryz.ntmps50
    go_wp2
    go_ret
    exact ⟨ret_bool (by rw [HF.out]; rfl), alloc_below _ _⟩
  · cases h2 : decide (f.F ≤ f.To)
    · rw [h, h2] at HF
      go_enter Tryz.func50, Tryz.ntmps50
      go_wp2
      go_ret
      exact ⟨ret_bool (by rw [HF.out]; rfl), alloc_below _ _⟩
    · rw [h, h2] at HF
      go_enter Tryz.func50, Tryz.ntmps50
      go_wp2
      go_ret
      exact ⟨ret_bool (by rw [HF.out]; simp), alloc_below _ _⟩

theorem lisTooLong_any (t : Ac) (w : World) (ht : t.T.length ≤ 9223372036854775807) :
    Calls Tryz.prog 52 #[.agg #[.int .i64 t.H, .int .i64 t.N, .string ⟨t.T.toArray⟩]] w fun e w' => e = .returned (.bool (longA t)) ∧ Below w.heap.size w w' := by
  have HF := Lib.hid (show longA t = decide (1000 < t.T.length) from rfl)
  go_enter Tryz.func52, Tryz.ntmps52
  go_wp2
  go_ret
  exact ⟨ret_bool (by rw [HF.out]; simp; omega), alloc_below _ _⟩

end Go.Proofs.YtbghpkdkfbpmeaaGreat
/-
  Contracts of package fault, second part: whether a locus may be, whom it hits, who is right, how its clock seems.
-/
namespace Go.Proofs.YtbghpkdkfbpmeaaGreat
open Go.RowKit Plait
set_option maxRecDepth 100000
set_option linter.unusedVariables false

theorem lisAt_any (f : Fa) (a : Option Addr) (ac : Nat) (d : Option Addr) (dc : Nat) (i : Int) (w : World) :
    Calls Tryz.prog 42 #[.agg #[.int .i64 f.K, .int .i64 f.At, .int .i64 f.F, .int .i64 f.To, .slice a f.A.length ac, .slice d f.D.length dc], .int .i64 i] w fun e w' => e = .returned (.bool (atB f i)) ∧ Below w.heap.size w w' := by
  have hB0 : Below w.heap.size w (w.alloc (.cells #[.int .i64 f.K, .int .i64 f.At, .int .i64 f.F, .int .i64 f.To, .slice a f.A.length ac, .slice d f.D.length dc] 27)) := alloc_below w _
  have HL := Lib.hid (fun W => llocusOf_any f a ac d dc W)
  have hn0 : ∀ (v : Value) (w : World), (Instr.typeAssert (.iface 89 v) 67 93 true).run Tryz.prog w = .ok (.tuple #[.nilIface, .bool false]) w := fun v w => run_typeAssert_lacksB Tryz.underlying93 (by kernel_rfl) (by kernel_rfl) v _ w
  have hn2 : ∀ (v : Value) (w : World), (Instr.typeAssert (.iface 91 v) 67 93 true).run Tryz.prog w = .ok (.tuple #[.nilIface, .bool false]) w := fun v w => run_typeAssert_lacksB Tryz.underlying93 (by kernel_rfl) (by kernel_rfl) v _ w
  have hn1 : ∀ (v : Value) (w : World), (Instr.typeAssert (.iface 90 v) 67 93 true).run Tryz.prog w = .ok (.tuple #[.iface 90 v, .bool true]) w := fun v w => run_typeAssert_hasB Tryz.underlying93 (by kernel_rfl) v _ w
  by_cases k1 : f.K = 1
  · have HV := Lib.hid (show locV f = .iface 90 (.int .i64 f.At) by unfold locV; rw [if_neg (by omega), if_pos k1])
    have HF := Lib.hid (show atB f i = (f.At == i) by unfold atB; simp [k1])
    rw [HV.out] at HL
    clear k1
    go_enter Tryz.func42, Tryz.ntmps42
    go_wp2_with fail
    refine (HL.out _).mono ?_
    rintro e wn ⟨rfl, hb⟩
    replace hB0 := hB0.trans (hb.mono hB0.size)
    go_wp2_with fail
    refine (latNode_isOf f.At i _).mono ?_
    rintro e wn ⟨rfl, rfl⟩
    go_wp2
    go_ret
    exact ⟨ret_bool HF.out.symm, hB0⟩
  · have HF := Lib.hid (show atB f i = false by unfold atB; simp [k1])
    obtain ⟨t, v, HV, ht⟩ : ∃ t v, locV f = .iface t v ∧ (t = 89 ∨ t = 91) := by
      unfold locV
      split
      · exact ⟨_, _, rfl, .inl rfl⟩
      · split
        · exact ⟨_, _, rfl, .inr rfl⟩
        · exact ⟨_, _, rfl, .inl rfl⟩
    rw [HV] at HL
    rcases ht with rfl | rfl
    all_goals
      clear k1 HV
      go_enter Tryz.func42, Tryz.ntmps42
      go_wp2_with fail
      refine (HL.out _).mono ?_
      rintro e wn ⟨rfl, hb⟩
      replace hB0 := hB0.trans (hb.mono hB0.size)
      go_wp2
      go_ret
      exact ⟨ret_bool HF.out.symm, hB0⟩

end Go.Proofs.YtbghpkdkfbpmeaaGreat
/-
  Contracts of package fault: whether a locus may be.
-/
namespace Go.Proofs.YtbghpkdkfbpmeaaGreat
open Go.RowKit Plait
set_option maxRecDepth 100000
set_option linter.unusedVariables false

theorem any_step (A : List Ac) (k : Nat) (h : k < A.length) (ha : (A.take k).any longA = false) (e : longA A[k] = false) : (A.take (k + 1)).any longA = false := by
  rw [List.take_succ_eq_append_getElem h, List.any_append, ha]
  simp [e]
theorem any_yes (A : List Ac) (k : Nat) (h : k < A.length) (e : longA A[k] = true) : A.any longA = true := List.any_eq_true.2 ⟨A[k], List.getElem_mem h, e⟩
theorem any_end (A : List Ac) (k : Nat) (h : ¬ k < A.length) (ha : (A.take k).any longA = false) : A.any longA = false := by
  rw [List.take_of_length_le (by omega)] at ha
  exact ha

set_option maxHeartbeats 800000 in
theorem lcontains_any (a : Option Addr) (A : List Ac) (cap : Nat) (w : World) (hA : RowA w a A) :
    Calls Tryz.prog 51 #[.slice a A.length cap, .func (.func 52) #[] #[]] w fun e w' => e = .returned (.bool (A.any longA)) ∧ Below w.heap.size w w' := by
  have HI := Lib.hid (show Calls Tryz.prog 65 #[.slice a A.length cap, .func (.func 52) #[] #[]] w fun e w' => (∃ r : Int, e = .returned (.int .i64 r) ∧ decide (0 ≤ r) = A.any longA) ∧ Below w.heap.size w w' from by
    have hlen := hA.1
    go_enter Tryz.func65, Tryz.ntmps65
    go_wp2
    go_loopw [5, 8] (fun _ i w' => ∃ k : Nat, k ≤ A.length ∧ i = .int .i64 k ∧ (A.take k).any longA = false ∧ Below w.heap.size w w') (fun _ i _ => A.length - (intOf i).toNat)
    case atStart => exact ⟨0, Nat.zero_le _, rfl, by simp, Below.refl _ _⟩
    case round =>
      obtain ⟨k, hk, rfl, hno, hB⟩ := hrel
      have HN := Lib.hid hno
      clear hno
      by_cases hlt : k < A.length
      · have d1 : decide (k < A.length) = true := by simpa using hlt
        obtain ⟨b, off, rfl, hbl, c1, c2, c3, _, _, hT⟩ := (hA.later hB).get k hlt
        have HC := Lib.hid (fun W => lisTooLong_any A[k] W hT)
        cases hx : longA A[k]
        · have HS := Lib.hid (any_step A k hlt HN.out hx)
          rw [hx] at HC
          clear hx
          generalize A[k] = t at *
          go_wp2_with fail
          refine (HC.out _).mono ?_
          rintro e wn ⟨rfl, hb⟩
          go_wp2
          go_roundw
          case rel => exact ⟨k + 1, by omega, by go_num, HS.out, hB.trans (hb.mono hB.size)⟩
          case measure => simp [intOf]; omega
        · have HF := Lib.hid (any_yes A k hlt hx)
          rw [hx] at HC
          clear hx
          generalize A[k] = t at *
          go_wp2_with fail
          refine (HC.out _).mono ?_
          rintro e wn ⟨rfl, hb⟩
          go_wp2
          go_ret
          exact ⟨⟨_, rfl, by rw [HF.out]; simp⟩, hB.trans (hb.mono hB.size)⟩
      · have d1 : decide (k < A.length) = false := by simpa using hlt
        have HF := Lib.hid (any_end A k hlt HN.out)
        go_wp2
        go_ret
        exact ⟨⟨_, rfl, by rw [HF.out]; rfl⟩, hB⟩)
  go_enter Tryz.func51, Tryz.ntmps51
  go_wp2_with fail
  refine HI.out.mono ?_
  rintro e wn ⟨⟨r, rfl, hr⟩, hb⟩
  have HR := Lib.hid hr
  clear hr
  go_wp2
  go_ret
  exact ⟨ret_bool HR.out, hb⟩

/-- The call of a locus' method exists, whatever the kind. -/
theorem place_of {c : Cf} {f : Fa} : (f.K = 0 → placeL c f = (f.At == 0)) ∧ (f.K = 1 → placeL c f = (decide (0 ≤ f.At) && decide (f.At < c.N))) ∧ (f.K = 2 → placeL c f = (decide (0 ≤ f.At) && decide (f.At < 2 * c.N))) := by
  refine ⟨fun h => ?_, fun h => ?_, fun h => ?_⟩
  · unfold placeL placesI
    rw [if_neg (by omega), if_neg (by omega)]
    by_cases h0 : f.At = 0
    · simp [h0]
    · have : ¬ (0 ≤ f.At ∧ f.At < 1) := by omega
      rw [Bool.eq_iff_iff]
      simp [h0]
      omega
  · unfold placeL placesI
    rw [if_pos h]
  · unfold placeL placesI
    rw [if_neg (by omega), if_pos h]

set_option maxHeartbeats 3200000 in
theorem lCheck_any (c : Cf) (ca : Option Addr) (cc : Nat) (f : Fa) (a : Option Addr) (ac : Nat) (d : Option Addr) (dc : Nat) (w : World) (hc : c.Ok) (hA : RowA w a f.A) (hD : f.D.length ≤ 9223372036854775807) :
    Calls Tryz.prog 28 #[.agg #[.int .i64 c.N, .int .i64 c.Pi, .int .i64 c.E, .int .i64 c.G, .int .i64 c.F, .slice ca c.P.length cc], .agg #[.int .i64 f.K, .int .i64 f.At, .int .i64 f.F, .int .i64 f.To, .slice a f.A.length ac, .slice d f.D.length dc]] w fun e w' => e = .returned (.int .i64 (checkL c f)) ∧ Below w.heap.size w w' := by
  have hB0 : Below w.heap.size w ((w.alloc (.cells #[.int .i64 c.N, .int .i64 c.Pi, .int .i64 c.E, .int .i64 c.G, .int .i64 c.F, .slice ca c.P.length cc] 24)).alloc (.cells #[.int .i64 f.K, .int .i64 f.At, .int .i64 f.F, .int .i64 f.To, .slice a f.A.length ac, .slice d f.D.length dc] 27)) := (alloc_below w _).alloc (by simp) _
  have hC : Blk ((w.alloc (.cells #[.int .i64 c.N, .int .i64 c.Pi, .int .i64 c.E, .int .i64 c.G, .int .i64 c.F, .slice ca c.P.length cc] 24)).alloc (.cells #[.int .i64 f.K, .int .i64 f.At, .int .i64 f.F, .int .i64 f.To, .slice a f.A.length ac, .slice d f.D.length dc] 27)) w.heap.size 24 (confBox c ca cc) := (Blk.new w _ _).alloc _
  have hF : Blk ((w.alloc (.cells #[.int .i64 c.N, .int .i64 c.Pi, .int .i64 c.E, .int .i64 c.G, .int .i64 c.F, .slice ca c.P.length cc] 24)).alloc (.cells #[.int .i64 f.K, .int .i64 f.At, .int .i64 f.F, .int .i64 f.To, .slice a f.A.length ac, .slice d f.D.length dc] 27)) (w.heap.size + 1) 27 (faBox f a ac d dc) := Blk.newAt _ _ (by simp)
  have HL := Lib.hid (fun W => llocusOf_any f a ac d dc W)
  have HR := Lib.hid (fun W => lroundsHold_any f a ac d dc W)
  have HX := Lib.hid (fun W (h : RowA W a f.A) => lcontains_any a f.A ac W h)
  have h6 := hc.n6
  have h12 := hc.n12
  have hAl := hA.1
  by_cases hk : knownL f = true
  · have hE : ∃ t x, locV f = .iface t (.int .i64 x) ∧ ∃ g, (t = 89 ∧ g = 122 ∨ t = 90 ∧ g = 124 ∨ t = 91 ∧ g = 128) ∧ ∀ W, Calls Tryz.prog g #[.int .i64 x, .int .i64 c.N] W fun e w' => e = .returned (.bool (placeL c f)) ∧ W = w' := by
      obtain ⟨p0, p1, p2⟩ := place_of (c := c) (f := f)
      rcases (by unfold knownL at hk; simp at hk; omega : f.K = 0 ∨ f.K = 1 ∨ f.K = 2) with k | k | k
      · exact ⟨_, f.At, by unfold locV; rw [if_pos k], _, .inl ⟨rfl, rfl⟩, fun W => by rw [p0 k]; exact lnowhere_exists _ _ W⟩
      · exact ⟨_, f.At, by unfold locV; rw [if_neg (by omega), if_pos k], _, .inr (.inl ⟨rfl, rfl⟩), fun W => by rw [p1 k]; exact latNode_exists _ _ W⟩
      · exact ⟨_, f.At, by unfold locV; rw [if_neg (by omega), if_neg (by omega), if_pos k], _, .inr (.inr ⟨rfl, rfl⟩), fun W => by rw [p2 k]; exact latLink_exists _ _ W (by omega) (by omega)⟩
    obtain ⟨t, x, hV, g, hg, hM⟩ := hE
    rw [hV, hk] at HL
    have HM := Lib.hid hM
    have H1 := Lib.hid (checkL_p c f hk)
    have H2 := Lib.hid (checkL_l c f hk)
    have HG : longL f = (decide ((40 : Int) < (f.A.length : Int)) || decide ((40 : Int) < (f.D.length : Int)) || f.A.any longA) := rfl
    have HG2 := Lib.hid HG
    clear hM hk HG
    generalize f.A.any longA = lg at *
    generalize placeL c f = p at *
    generalize roundsL f = r at *
    rcases hg with ⟨rfl, rfl⟩ | ⟨rfl, rfl⟩ | ⟨rfl, rfl⟩
    all_goals
      clear hV
      cases p
      · go_enter Tryz.func28, Tryz.ntmps28
        go_wp2_with fail
        refine (HL.out _).mono ?_
        rintro e wn ⟨rfl, hb⟩
        replace hB0 := hB0.trans (hb.mono hB0.size)
        replace hC := hC.later hb
        have hQ := hC.at
        unfold confBox at hQ
        clear hb hF
        go_wp2_with fail
        refine (HM.out _).mono ?_
        rintro e wl ⟨rfl, rfl⟩
        go_wp2
        go_ret
        exact ⟨ret_int (H1.out rfl).symm, hB0⟩
      · cases r
        · go_enter Tryz.func28, Tryz.ntmps28
          go_wp2_with fail
          refine (HL.out _).mono ?_
          rintro e wn ⟨rfl, hb⟩
          replace hB0 := hB0.trans (hb.mono hB0.size)
          replace hC := hC.later hb
          replace hF := hF.later hb
          have hQ := hC.at
          unfold confBox at hQ
          have hQf := hF.at
          unfold faBox at hQf
          clear hb
          go_wp2_with fail
          refine (HM.out _).mono ?_
          rintro e wl ⟨rfl, rfl⟩
          go_wp2_with fail
          refine (HR.out _).mono ?_
          rintro e wm ⟨rfl, hb⟩
          go_wp2
          go_ret
          exact ⟨ret_int (H1.out rfl).symm, hB0.trans (hb.mono hB0.size)⟩
        · have H3 := Lib.hid (H2.out rfl)
          cases d1 : decide ((40 : Int) < (f.A.length : Int))
          · cases d2 : decide ((40 : Int) < (f.D.length : Int))
            · have H4 := Lib.hid (show longL f = lg by rw [HG2.out, d1, d2]; rfl)
              cases lg
              all_goals
                have H5 := Lib.hid (show checkL c f = _ by rw [H3.out, H4.out])
                go_enter Tryz.func28, Tryz.ntmps28
                go_wp2_with fail
                refine (HL.out _).mono ?_
                rintro e wn ⟨rfl, hb⟩
                replace hB0 := hB0.trans (hb.mono hB0.size)
                replace hC := hC.later hb
                replace hF := hF.later hb
                have hQ := hC.at
                unfold confBox at hQ
                have hQf := hF.at
                unfold faBox at hQf
                clear hb
                go_wp2_with fail
                refine (HM.out _).mono ?_
                rintro e wl ⟨rfl, rfl⟩
                go_wp2_with fail
                refine (HR.out _).mono ?_
                rintro e wm ⟨rfl, hb⟩
                clear hQ hQf
                replace hB0 := hB0.trans (hb.mono hB0.size)
                replace hF := hF.later hb
                have hQf := hF.at
                unfold faBox at hQf
                clear hb hC
                go_wp2_with fail
                refine (HX.out _ (hA.later hB0)).mono ?_
                rintro e wk ⟨rfl, hb⟩
                go_wp2
                go_ret
                exact ⟨ret_int H5.out.symm, hB0.trans (hb.mono hB0.size)⟩
            · have H4 := Lib.hid (show longL f = true by rw [HG2.out, d2]; simp)
              have H5 := Lib.hid (show checkL c f = 2 by rw [H3.out, H4.out]; rfl)
              go_enter Tryz.func28, Tryz.ntmps28
              go_wp2_with fail
              refine (HL.out _).mono ?_
              rintro e wn ⟨rfl, hb⟩
              replace hB0 := hB0.trans (hb.mono hB0.size)
              replace hC := hC.later hb
              replace hF := hF.later hb
              have hQ := hC.at
              unfold confBox at hQ
              have hQf := hF.at
              unfold faBox at hQf
              clear hb
              go_wp2_with fail
              refine (HM.out _).mono ?_
              rintro e wl ⟨rfl, rfl⟩
              go_wp2_with fail
              refine (HR.out _).mono ?_
              rintro e wm ⟨rfl, hb⟩
              clear hQ hQf
              replace hB0 := hB0.trans (hb.mono hB0.size)
              replace hF := hF.later hb
              have hQf := hF.at
              unfold faBox at hQf
              clear hb hC
              go_wp2
              go_ret
              exact ⟨ret_int H5.out.symm, hB0⟩
          · have H4 := Lib.hid (show longL f = true by rw [HG2.out, d1]; rfl)
            have H5 := Lib.hid (show checkL c f = 2 by rw [H3.out, H4.out]; rfl)
            go_enter Tryz.func28, Tryz.ntmps28
            go_wp2_with fail
            refine (HL.out _).mono ?_
            rintro e wn ⟨rfl, hb⟩
            replace hB0 := hB0.trans (hb.mono hB0.size)
            replace hC := hC.later hb
            replace hF := hF.later hb
            have hQ := hC.at
            unfold confBox at hQ
            have hQf := hF.at
            unfold faBox at hQf
            clear hb
            go_wp2_with fail
            refine (HM.out _).mono ?_
            rintro e wl ⟨rfl, rfl⟩
            go_wp2_with fail
            refine (HR.out _).mono ?_
            rintro e wm ⟨rfl, hb⟩
            clear hQ hQf
            replace hB0 := hB0.trans (hb.mono hB0.size)
            replace hF := hF.later hb
            have hQf := hF.at
            unfold faBox at hQf
            clear hb hC
            go_wp2
            go_ret
            exact ⟨ret_int H5.out.symm, hB0⟩
  · replace hk : knownL f = false := by simpa using hk
    have HK := Lib.hid (checkL_k c f hk)
    rw [hk] at HL
    obtain ⟨t, x, hV⟩ : ∃ t x, locV f = .iface t x := by
      unfold locV
      split
      · exact ⟨_, _, rfl⟩
      · split
        · exact ⟨_, _, rfl⟩
        · split <;> exact ⟨_, _, rfl⟩
    rw [hV] at HL
    clear hV hk
    go_enter Tryz.func28, Tryz.ntmps28
    go_wp2_with fail
    refine (HL.out _).mono ?_
    rintro e wn ⟨rfl, hb⟩
    go_wp2
    go_ret
    exact ⟨ret_int HK.out.symm, hB0.trans (hb.mono hB0.size)⟩

end Go.Proofs.YtbghpkdkfbpmeaaGreat
/-
  Contracts of package fault, third part: whom a locus hits, who is right, how its clock seems.
-/
namespace Go.Proofs.YtbghpkdkfbpmeaaGreat
open Go.RowKit Plait
set_option maxRecDepth 100000
set_option linter.unusedVariables false

set_option maxHeartbeats 1600000 in
theorem lHits_any (c : Cf) (ca : Option Addr) (cc : Nat) (f : Fa) (a : Option Addr) (ac : Nat) (d : Option Addr) (dc : Nat) (i j : Int) (w : World) (hc : c.Ok) (hi : inI i) (hj : inI j) :
    Calls Tryz.prog 17 #[.agg #[.int .i64 c.N, .int .i64 c.Pi, .int .i64 c.E, .int .i64 c.G, .int .i64 c.F, .slice ca c.P.length cc], .agg #[.int .i64 f.K, .int .i64 f.At, .int .i64 f.F, .int .i64 f.To, .slice a f.A.length ac, .slice d f.D.length dc], .int .i64 i, .int .i64 j] w fun e w' => e = .returned (.bool (hitsB c f i j)) ∧ Below w.heap.size w w' := by
  have hB0 : Below w.heap.size w ((w.alloc (.cells #[.int .i64 c.N, .int .i64 c.Pi, .int .i64 c.E, .int .i64 c.G, .int .i64 c.F, .slice ca c.P.length cc] 24)).alloc (.cells #[.int .i64 f.K, .int .i64 f.At, .int .i64 f.F, .int .i64 f.To, .slice a f.A.length ac, .slice d f.D.length dc] 27)) := (alloc_below w _).alloc (by simp) _
  have hC : Blk ((w.alloc (.cells #[.int .i64 c.N, .int .i64 c.Pi, .int .i64 c.E, .int .i64 c.G, .int .i64 c.F, .slice ca c.P.length cc] 24)).alloc (.cells #[.int .i64 f.K, .int .i64 f.At, .int .i64 f.F, .int .i64 f.To, .slice a f.A.length ac, .slice d f.D.length dc] 27)) w.heap.size 24 (confBox c ca cc) := (Blk.new w _ _).alloc _
  have HL := Lib.hid (fun W => llocusOf_any f a ac d dc W)
  have h6 := hc.n6
  have h12 := hc.n12
  have hE : ∃ t x, locV f = .iface t (.int .i64 x) ∧ ∃ g, (t = 89 ∧ g = 123 ∨ t = 90 ∧ g = 126 ∨ t = 91 ∧ g = 129) ∧ ∀ W, Calls Tryz.prog g #[.int .i64 x, .int .i64 c.N, .int .i64 i, .int .i64 j] W fun e w' => e = .returned (.bool (hitsB c f i j)) ∧ Below W.heap.size W w' := by
    unfold hitsB locV
    by_cases k1 : f.K = 1
    · exact ⟨_, f.At, by rw [if_neg (by omega), if_pos k1], _, .inr (.inl ⟨rfl, rfl⟩), fun W => by rw [if_pos k1]; exact (latNode_sends _ _ _ _ W).mono fun e w' ⟨h1, h2⟩ => ⟨h1, h2 ▸ Below.refl _ _⟩⟩
    · by_cases k2 : f.K = 2
      · exact ⟨_, f.At, by rw [if_neg (by omega), if_neg k1, if_pos k2], _, .inr (.inr ⟨rfl, rfl⟩), fun W => by rw [if_neg k1, if_pos k2]; exact latLink_sends _ _ _ _ W (by omega) (by omega) hi hj⟩
      · by_cases k0 : f.K = 0
        · exact ⟨_, f.At, by rw [if_pos k0], _, .inl ⟨rfl, rfl⟩, fun W => by rw [if_neg k1, if_neg k2]; exact (lnowhere_sends _ _ _ _ W).mono fun e w' ⟨h1, h2⟩ => ⟨h1, h2 ▸ Below.refl _ _⟩⟩
        · exact ⟨_, 0, by rw [if_neg k0, if_neg k1, if_neg k2], _, .inl ⟨rfl, rfl⟩, fun W => by rw [if_neg k1, if_neg k2]; exact (lnowhere_sends _ _ _ _ W).mono fun e w' ⟨h1, h2⟩ => ⟨h1, h2 ▸ Below.refl _ _⟩⟩
  obtain ⟨t, x, hV, g, hg, hM⟩ := hE
  rw [hV] at HL
  have HM := Lib.hid hM
  clear hM hV
  rcases hg with ⟨rfl, rfl⟩ | ⟨rfl, rfl⟩ | ⟨rfl, rfl⟩
  all_goals
    go_enter Tryz.func17, Tryz.ntmps17
    go_wp2_with fail
    refine (HL.out _).mono ?_
    rintro e wn ⟨rfl, hb⟩
    replace hB0 := hB0.trans (hb.mono hB0.size)
    replace hC := hC.later hb
    have hQ := hC.at
    unfold confBox at hQ
    clear hb
    go_wp2_with fail
    refine (HM.out _).mono ?_
    rintro e wm ⟨rfl, hb⟩
    go_wp2
    go_ret
    exact ⟨rfl, hB0.trans (hb.mono hB0.size)⟩

theorem lRight_any (c : Cf) (ca : Option Addr) (cc : Nat) (f : Fa) (a : Option Addr) (ac : Nat) (d : Option Addr) (dc : Nat) (r i : Int) (w : World) :
    Calls Tryz.prog 19 #[.agg #[.int .i64 c.N, .int .i64 c.Pi, .int .i64 c.E, .int .i64 c.G, .int .i64 c.F, .slice ca c.P.length cc], .agg #[.int .i64 f.K, .int .i64 f.At, .int .i64 f.F, .int .i64 f.To, .slice a f.A.length ac, .slice d f.D.length dc], .int .i64 r, .int .i64 i] w fun e w' => e = .returned (.bool (rightB f r i)) ∧ Below w.heap.size w w' := by
  have hB0 : Below w.heap.size w ((w.alloc (.cells #[.int .i64 c.N, .int .i64 c.Pi, .int .i64 c.E, .int .i64 c.G, .int .i64 c.F, .slice ca c.P.length cc] 24)).alloc (.cells #[.int .i64 f.K, .int .i64 f.At, .int .i64 f.F, .int .i64 f.To, .slice a f.A.length ac, .slice d f.D.length dc] 27)) := (alloc_below w _).alloc (by simp) _
  have HL := Lib.hid (fun W => lisAt_any f a ac d dc i W)
  have HF := Lib.hid (show rightB f r i = (decide (f.To ≤ r) || !atB f i) from rfl)
  generalize atB f i = b at *
  cases h : decide (f.To ≤ r)
  · rw [h] at HF
    go_enter Tryz.func19, Tryz.ntmps19
    go_wp2_with fail
    refine (HL.out _).mono ?_
    rintro e wn ⟨rfl, hb⟩
    go_wp2
    go_ret
    exact ⟨ret_bool (by rw [HF.out]; simp), hB0.trans (hb.mono hB0.size)⟩
  · rw [h] at HF
    go_enter Tryz.func19, Tryz.ntmps19
    go_wp2
    go_ret
    exact ⟨ret_bool (by rw [HF.out]; simp), hB0⟩

theorem emod_at {α : Type} (xs : List α) (n : Int) (h : 0 < xs.length) : ∃ k : Nat, n % (xs.length : Int) = k ∧ k < xs.length := by
  have h1 := Int.emod_nonneg n (show (xs.length : Int) ≠ 0 by omega)
  have h2 := Int.emod_lt_of_pos n (show 0 < (xs.length : Int) by omega)
  exact ⟨(n % (xs.length : Int)).toNat, by omega, by omega⟩

theorem lpickA_any (a : Option Addr) (A : List Ac) (cap : Nat) (n : Int) (w : World) (hA : RowA w a A) (h0 : 0 < A.length) (hl : A.length ≤ 1000000) :
    Calls Tryz.prog 38 #[.slice a A.length cap, .int .i64 n] w fun e w' => e = .returned (.agg #[.int .i64 (pickA A n).H, .int .i64 (pickA A n).N, .string ⟨(pickA A n).T.toArray⟩]) ∧ Below w.heap.size w w' := by
  obtain ⟨k, hk, hk2⟩ := emod_at A n h0
  have HR := Lib.hid (fun W => lrem_any n A.length W (by omega) (by omega))
  rw [hk] at HR
  obtain ⟨b, off, rfl, hlt, c1, c2, c3, _, _⟩ := hA.get k hk2
  have HF := Lib.hid (show pickA A n = A[k] by unfold pickA; rw [hk]; simp [hk2])
  rw [HF.out]
  clear hk
  generalize A[k] = t at *
  go_enter Tryz.func38, Tryz.ntmps38
  go_wp2_with fail
  refine (HR.out _).mono ?_
  rintro e wl ⟨rfl, rfl⟩
  go_wp2
  refine bodyPost_ret (v := .agg #[.int .i64 t.H, .int .i64 t.N, .string ⟨t.T.toArray⟩]) (by simp [results, Tryz.results38, go_sem]) rfl ⟨rfl, alloc_below _ _⟩

end Go.Proofs.YtbghpkdkfbpmeaaGreat
/-
  math/bits.Mul, by the shelf's contract.
-/
namespace Go.Proofs
open Go.Shelf
set_option maxRecDepth 100000

def Tryz.mul6_ren : Go.Shelf.Ren := ⟨fun | 212 => 76 | 263 => 88 | 264 => 89 | n => n, fun | 46 => 85 | 51 => 123 | 146 => 124 | 53 => 126 | 148 => 127 | n => n, fun | n => n⟩
theorem Tryz.mul6 : Go.Proofs.Lays.n212 Tryz.prog Tryz.mul6_ren := {
  mixed := by kernel_rfl
  f212 := Tryz.func76.trans (congrArg some (by kernel_rfl))
  f263 := Tryz.func88.trans (congrArg some (by kernel_rfl))
  f264 := Tryz.func89.trans (congrArg some (by kernel_rfl))
  t46 := Tryz.underlying85
  a46 := Tryz.isAgg85
  z46 := Tryz.sizeOf85
  v46 := Tryz.zeroValue85
  t51 := Tryz.underlying123
  a51 := Tryz.isAgg123
  z51 := Tryz.sizeOf123
  v51 := Tryz.zeroValue123
  t53 := Tryz.underlying126
  a53 := Tryz.isAgg126
  z53 := Tryz.sizeOf126
  v53 := Tryz.zeroValue126
  t146 := Tryz.underlying124
  a146 := Tryz.isAgg124
  z146 := Tryz.sizeOf124
  v146 := Tryz.zeroValue124
  t148 := Tryz.underlying127
  a148 := Tryz.isAgg127
  z148 := Tryz.sizeOf127
  v148 := Tryz.zeroValue127 }
open Go.RowKit Go.Lib in
theorem Tryz.bits_Mul6 (x y : Nat) (hx : x < 18446744073709551616) (hy : y < 18446744073709551616) (w : World) :
    Calls Tryz.prog 76 #[.int .u64 x, .int .u64 y] w fun e w' => e = .returned (.tuple #[.int .u64 ((x * y / 18446744073709551616 : Nat) : Int), .int .u64 ((x * y % 18446744073709551616 : Nat) : Int)]) ∧ w' = w := Any.bits_Mul Tryz.mul6 x y hx hy w

end Go.Proofs
/-
  slices.Repeat of one item: a row of so many of it.
-/
namespace Go.Proofs.YtbghpkdkfbpmeaaGreat
open Go.RowKit Plait
set_option maxRecDepth 100000
set_option linter.unusedVariables false

/-- copy between rows of items, into a row that is known whole. -/
theorem run_copy_items (w : World) (ty : TypeId) (g o dLen dCap : Nat) (a : Addr) (sLen sCap : Nat) (cur : Array Value) (t : TypeId) (cs : List Value)
    (hg : w.heap[g]? = some (.cells cur t (0, 0))) (hn : cs.length = Nat.min sLen dLen * 2)
    (hsrc : ∀ j v, cs[j]? = some v → w.cell? (a.add j) = some v) (hfit : o + cs.length ≤ cur.size) (h1 : ∀ v ∈ cs, v.oneCell' = true) :
    (Builtin.copy_ #[30, 30] ty #[.slice (some ⟨g, o, none⟩) dLen dCap, .slice (some a) sLen sCap]).run Tryz.prog w =
      .ok (goInt (Nat.min sLen dLen)) (w.setRow g (cur.toList.take o ++ cs ++ cur.toList.drop (o + cs.length)).toArray) := by
  have hl := run_loadCells_list (P := Tryz.prog) w a cs hsrc
  have hst := run_storeCells_at Tryz.prog g o t cs 0 cur w hg (by simpa using hfit) h1
  obtain ⟨i, hi, hz0, hz1, hz2⟩ := info_parts infoItem
  simp [Builtin.copy_, run_underlying Tryz.underlying30, Builtin.lenOf, Builtin.firstCells, sizeOf, typeInfo, hi, hz1, ← hn, hl, hst]

theorem itCells_rep (t : It) (n k : Nat) : itCells (List.replicate (n + k) t) = itCells (List.replicate n t) ++ itCells (List.replicate k t) := by
  rw [← itCells_append, List.replicate_append_replicate]

/-- So far filled. -/
structure RepAt (t : It) (m g n : Nat) (W : World) : Prop where
  ex : ∃ cur : Array Value, Blk W g 29 cur ∧ cur.size = m * 2 ∧ cur.toList.take (n * 2) = itCells (List.replicate n t)

theorem RepAt.row {t : It} {m g : Nat} {W : World} (h : RepAt t m g m W) (hm : m ≤ 1000000) (hK : inI t.K) (hV : inI t.V) : RowT W (some ⟨g, 0, none⟩) (List.replicate m t) := by
  obtain ⟨cur, hk, hs, hc⟩ := h.ex
  refine ⟨by simp; omega, fun u hu => by rw [List.eq_of_mem_replicate hu]; exact ⟨hK, hV⟩, .inr ⟨g, 0, rfl, hk.lt, fun i hi => ?_⟩⟩
  have hl : cur.toList = itCells (List.replicate m t) := by rw [← hc, List.take_of_length_le (by simp; omega)]
  have h2 := itCells_get _ i hi
  constructor
  · rw [hk.at, ← Array.getElem?_toList, hl, Nat.zero_add]; exact h2.1
  · rw [hk.at, ← Array.getElem?_toList, hl, Nat.zero_add]; exact h2.2

/-- One step: k items more. -/
theorem rep_step {t : It} {m n k : Nat} {cur : Array Value} (hs : cur.size = m * 2) (hc : cur.toList.take (n * 2) = itCells (List.replicate n t)) (hk : n + k ≤ m) :
    (cur.toList.take (n * 2) ++ itCells (List.replicate k t) ++ cur.toList.drop (n * 2 + (itCells (List.replicate k t)).length)).toArray.size = m * 2 ∧
    (cur.toList.take (n * 2) ++ itCells (List.replicate k t) ++ cur.toList.drop (n * 2 + (itCells (List.replicate k t)).length)).toArray.toList.take ((n + k) * 2) = itCells (List.replicate (n + k) t) := by
  have hl : (itCells (List.replicate k t)).length = k * 2 := by rw [itCells_len]; simp
  have hl2 : (itCells (List.replicate n t)).length = n * 2 := by rw [itCells_len]; simp
  constructor
  · simp [hl]; omega
  · simp only [hc]
    rw [List.take_append_of_le_length (by rw [List.length_append, hl, hl2]; omega), List.take_of_length_le (by rw [List.length_append, hl, hl2]; omega), ← itCells_rep]

theorem made_items (m : Nat) (hm : m ≤ 1000000) : ∃ M : Array Value, M.size = m * 2 ∧ ∀ W : World, (Instr.makeSlice 30 (.int .i64 (m : Int)) (.int .i64 (m : Int))).run Tryz.prog W = .ok (.slice (some ⟨W.heap.size, 0, none⟩) m m) (W.alloc (.cells M 29)) := by
  obtain ⟨i, hi, hz0, hz1, hz2⟩ := info_parts infoItem
  refine ⟨madeCells (Value.agg #[.int .i64 0, .int .i64 0]).cells (((m : Nat) : Int).toNat * i.size), by rw [size_madeCells, hz1]; simp, fun W => ?_⟩
  have h := run_make (P := Tryz.prog) W 30 29 i (.agg #[.int .i64 0, .int .i64 0]) Tryz.underlying30 hi hz0 .i64 .i64 (m : Int) (m : Int) (by omega) (by omega) (by rw [hz2]; omega) (by omega)
  simpa using h

theorem setRow_blk {w : World} {g : Nat} {t : TypeId} {cur : Array Value} (h : Blk w g t cur) (cs : Array Value) : Blk (w.setRow g cs) g t cs := setRow_heap w g cur cs t (0, 0) h

/-- A copy of k items more into the row. -/
theorem rep_copy {t : It} {m g n k : Nat} {W : World} (h : RepAt t m g n W) (a : Addr) (dLen dCap sLen sCap : Nat) (hk : k = Nat.min sLen dLen) (hnk : n + k ≤ m) (hsrc : ∀ j, j < k → W.cell? (a.add (j * 2)) = some (.int .i64 t.K) ∧ W.cell? (a.add (j * 2 + 1)) = some (.int .i64 t.V)) :
    ∃ W' : World, (∀ ty, (Builtin.copy_ #[30, 30] ty #[.slice (some ⟨g, n * 2, none⟩) dLen dCap, .slice (some a) sLen sCap]).run Tryz.prog W = .ok (.int .i64 (k : Int)) W') ∧ RepAt t m g (n + k) W' ∧ ∀ B w0, Below B w0 W → B ≤ g → Below B w0 W' := by
  obtain ⟨cur, hB, hs, hc⟩ := h.ex
  have hl : (itCells (List.replicate k t)).length = k * 2 := by rw [itCells_len]; simp
  have hst := rep_step hs hc hnk (t := t)
  refine ⟨W.setRow g (cur.toList.take (n * 2) ++ itCells (List.replicate k t) ++ cur.toList.drop (n * 2 + (itCells (List.replicate k t)).length)).toArray, fun ty => ?_, ⟨_, setRow_blk hB _, hst.1, hst.2⟩, fun B w0 hb hBg => hb.trans ⟨rfl, rfl, rfl, by simp [World.setRow], fun j hj => setRow_other W g j _ (by omega)⟩⟩
  rw [run_copy_items W ty g (n * 2) dLen dCap a sLen sCap cur 29 (itCells (List.replicate k t)) hB (by rw [hl, hk]) ?_ (by rw [hl, hs]; omega) (itCells_one _), ← hk]
  · rfl
  · intro j v hj
    have hlt : j < k * 2 := by
      rcases Nat.lt_or_ge j (k * 2) with h' | h'
      · exact h'
      · rw [List.getElem?_eq_none (by omega)] at hj; cases hj
    obtain ⟨q, hq⟩ : ∃ q, j = q * 2 ∨ j = q * 2 + 1 := ⟨j / 2, by omega⟩
    have hg := itCells_get (List.replicate k t) q (by simp; omega)
    rcases hq with rfl | rfl
    · rw [hg.1] at hj
      rw [← hj, List.getElem_replicate]
      exact (hsrc q (by omega)).1
    · rw [hg.2] at hj
      rw [← hj, List.getElem_replicate]
      exact (hsrc q (by omega)).2

theorem RepAt.cells {t : It} {m g n : Nat} {W : World} (h : RepAt t m g n W) (j : Nat) (hj : j < n) : W.cell? ⟨g, j * 2, none⟩ = some (.int .i64 t.K) ∧ W.cell? ⟨g, j * 2 + 1, none⟩ = some (.int .i64 t.V) := by
  obtain ⟨cur, hk, hs, hc⟩ := h.ex
  have hg := itCells_get (List.replicate n t) j (by simpa using hj)
  rw [List.getElem_replicate, ← hc] at hg
  rw [List.getElem?_take, if_pos (by omega), List.getElem?_take, if_pos (by omega)] at hg
  exact ⟨by rw [hk.at, ← Array.getElem?_toList]; exact hg.1, by rw [hk.at, ← Array.getElem?_toList]; exact hg.2⟩
theorem RepAt.drew {t : It} {m g n : Nat} {W : World} (h : RepAt t m g n W) : RepAt t m g n W.drew := ⟨h.ex⟩

set_option maxHeartbeats 1600000 in
theorem lrepeat_any (t : It) (H c m : Nat) (w : World) (hH : Blk w H 29 #[.int .i64 t.K, .int .i64 t.V]) (hm : m ≤ 1000) (hK : inI t.K) (hV : inI t.V) :
    Calls Tryz.prog 61 #[.slice (some ⟨H, 0, none⟩) 1 c, .int .i64 m] w fun e w' => ∃ (a : Option Addr) (cap : Nat), e = .returned (.slice a m cap) ∧ RowT w' a (List.replicate m t) ∧ (∀ x, a = some x → w.heap.size ≤ x.block) ∧ Below w.heap.size w w' := by
  obtain ⟨M, hM, hmake⟩ := made_items m (by omega)
  have hmul := Lib.hid (fun W => Tryz.bits_Mul6 1 m (by omega) (by omega) W)
  have e1 : 1 * m / 18446744073709551616 = 0 := by omega
  have e2 : 1 * m % 18446744073709551616 = m := by omega
  rw [e1, e2] at hmul
  have hHa := (hH.alloc (.cells M 29)).at
  obtain ⟨k0, hk0⟩ : ∃ k, k = Nat.min 1 m := ⟨_, rfl⟩
  have hk1 : k0 ≤ 1 := by rw [hk0]; exact Nat.min_le_left _ _
  have hk2 : k0 ≤ m := by rw [hk0]; exact Nat.min_le_right _ _
  have hk3 : m = 0 ∨ 0 < k0 := by
    rcases Nat.eq_zero_or_pos m with h | h
    · exact .inl h
    · exact .inr (by rw [hk0]; exact Nat.lt_min.2 ⟨by omega, h⟩)
  have hR0 : RepAt t m w.heap.size 0 (w.alloc (.cells M 29)) := ⟨M, Blk.new w _ _, hM, by simp [itCells]⟩
  obtain ⟨W1, hcopy, hR1, hB1⟩ := rep_copy hR0 ⟨H, 0, none⟩ m m 1 c hk0 (by omega) (fun j hj => by
    have : j = 0 := by omega
    subst this
    rw [addr_at, addr_at]
    exact ⟨by rw [hHa]; rfl, by rw [hHa]; rfl⟩)
  have hB := hB1 _ _ (alloc_below w (.cells M 29)) (Nat.le_refl _)
  rw [Nat.zero_mul] at hcopy
  rw [Nat.zero_add] at hR1
  clear hM e1 e2 hHa hR0 hB1 hk0 hH
  go_enter Tryz.func61, Tryz.ntmps61
  go_wp2_with fail
  refine (hmul.out _).mono ?_
  rintro e wl ⟨rfl, rfl⟩
  go_wp2_with fail
  clear hcopy hmake hmul
  go_loopw [8] (fun v w' => ∃ n : Nat, n ≤ m ∧ (m = 0 ∨ 0 < n) ∧ v = .int .i64 n ∧ RepAt t m wl.heap.size n w' ∧ Below wl.heap.size wl w') (fun v _ => m - (intOf v).toNat)
  case atStart => exact ⟨k0, hk2, hk3, rfl, hR1, hB⟩
  case round =>
    obtain ⟨n, hn, hn0, rfl, hR, hb⟩ := hrel
    clear hB hR1
    by_cases hlt : n < m
    · have d1 : decide ((n : Int) < (m : Int)) = true := by simp; omega
      obtain ⟨k, hk⟩ : ∃ k, k = Nat.min n (m - n) := ⟨_, rfl⟩
      have hk5 : k ≤ m - n := by rw [hk]; exact Nat.min_le_right _ _
      have hk1 : n + k ≤ m := by omega
      have hk4 : k ≤ n := by rw [hk]; exact Nat.min_le_left _ _
      have hk2 : 0 < k := by rw [hk]; exact Nat.lt_min.2 ⟨by omega, by omega⟩
      obtain ⟨W2, hcopy, hR2, hB2⟩ := rep_copy hR.drew ⟨wl.heap.size, 0, none⟩ (m - n) (m - n) n m hk hk1 (fun j hj => by
        rw [addr_at, addr_at, Nat.zero_add, Nat.zero_add]
        exact hR.drew.cells j (by omega))
      have hb2 := hB2 _ _ hb.drew (Nat.le_refl _)
      clear hB2 hk
      go_wp2_with fail
      have z1 : IntKind.i64.wrap ((n : Int) + (k : Int)) = (n : Int) + k := wrap_in _ (by omega) (by omega)
      have hne : (m = n) = False := by simp; omega
      go_region_law (fail)
      all_goals go_simp
      all_goals go_wp2
      all_goals go_roundw
      case rel => exact ⟨n + k, by omega, .inr (by omega), by go_num, hR2, hb2⟩
      case measure => simp [intOf]; omega
    · have : n = m := by omega
      subst this
      go_wp2
      go_ret
      exact ⟨_, _, rfl, hR.row (by omega) hK hV, fun x hx => by injection hx with hx; subst hx; exact Nat.le_refl _, hb⟩

end Go.Proofs.YtbghpkdkfbpmeaaGreat

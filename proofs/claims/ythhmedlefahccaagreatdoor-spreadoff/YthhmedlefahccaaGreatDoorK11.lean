/-
  Contracts of package lane, second part: a step, for every relay and all bytes; what goes out of two texts.
-/
import Derived.Test.YthhmedlefahccaaGreatDoorK10
import Derived.Test.YthhmedlefahccaaGreatDoorK9
import Derived.Stop.Asserts
import Derived.Shelf.Bits.Mul64
import Derived.Test.YthhmedlefahccaaGreatDoorProg
import Derived.Laws.CopyRow
import Derived.Deep.RegionLaw
namespace Go.Proofs.YthhmedlefahccaaGreatDoor
open Go.RowKit Plait
set_option maxRecDepth 100000
set_option linter.unusedVariables false

/-- A call that makes memory, and then a store into one block: all other blocks stay. -/
theorem grown_set {w w1 : World} (hb : Below w.heap.size w w1) (g i : Nat) (u : Value) : w.grownBy (w1.setCell ⟨g, i, none⟩ u) (some g) :=
  ⟨hb.os, hb.tape, hb.output, by simpa [World.setCell] using hb.size, fun k hk hne => (Below.heap_setCell w1 ⟨g, i, none⟩ u k (fun e => hne (by rw [e]))).trans (hb.block k hk)⟩

/-- What a step answers and leaves. -/
def StepRet (g : Nat) (t : TypeId) (cmp over : Bool) (d s : UInt8) (w : World) (e : Ending) (w' : World) : Prop :=
  e = .returned (.int .u8 (stepC cmp over d s).toNat) ∧ Blk w' g t #[.bool cmp, .bool (stepO cmp over d s)] ∧ w.grownBy w' (some g)

theorem ruleTrue (cmp : Bool) (d s : UInt8) (w : World) :
    Calls Tryz.prog (ruleF cmp) #[.agg #[.int .i32 d.toNat, .int .i32 s.toNat]] w fun e w' => e = .returned (.bool (symB d && (!cmp || d == s))) ∧ Below w.heap.size w w' := by
  cases cmp
  · have := lisSent_any d s w
    simpa [ruleF] using this
  · have := lisAgreed_any d s w
    simpa [ruleF] using this

theorem lrule_f (g : Nat) (over : Bool) (w : World) (hK : Blk w g 141 #[.bool false, .bool over]) :
    Calls Tryz.prog 100 #[.pointer (some ⟨g, 0, none⟩)] w fun e w' => e = .returned (.func (.func 109) #[] #[]) ∧ w = w' := lrule_any g false over w hK
theorem lrule_t (g : Nat) (over : Bool) (w : World) (hK : Blk w g 141 #[.bool true, .bool over]) :
    Calls Tryz.prog 100 #[.pointer (some ⟨g, 0, none⟩)] w fun e w' => e = .returned (.func (.func 108) #[] #[]) ∧ w = w' := lrule_any g true over w hK
theorem ruled_f (d s : UInt8) (w : World) :
    Calls Tryz.prog 109 #[.agg #[.int .i32 d.toNat, .int .i32 s.toNat]] w fun e w' => e = .returned (.bool (symB d && (!false || d == s))) ∧ Below w.heap.size w w' := ruleTrue false d s w
theorem ruled_t (d s : UInt8) (w : World) :
    Calls Tryz.prog 108 #[.agg #[.int .i32 d.toNat, .int .i32 s.toNat]] w fun e w' => e = .returned (.bool (symB d && (!true || d == s))) ∧ Below w.heap.size w w' := ruleTrue true d s w

theorem passB_eq (cmp : Bool) (d s : UInt8) : passB cmp false d s = (symB d && (!cmp || d == s)) := by simp only [passB, Bool.not_false, Bool.true_and]
theorem stepC_no {cmp : Bool} {d s : UInt8} (h : (symB d && (!cmp || d == s)) = false) : stepC cmp false d s = 46 := by
  have hp : passB cmp false d s = false := (passB_eq cmp d s).trans h
  unfold stepC
  rw [hp]; rfl
theorem stepO_no {cmp : Bool} {d s : UInt8} (h : (symB d && (!cmp || d == s)) = false) : stepO cmp false d s = true := by
  have hp : passB cmp false d s = false := (passB_eq cmp d s).trans h
  unfold stepO
  rw [hp]; rfl
theorem stepC_yes {cmp : Bool} {d s : UInt8} (h : (symB d && (!cmp || d == s)) = true) : stepC cmp false d s = d := by
  have hp : passB cmp false d s = true := (passB_eq cmp d s).trans h
  unfold stepC
  rw [hp]; rfl
theorem stepO_yes {cmp : Bool} {d s : UInt8} (h : (symB d && (!cmp || d == s)) = true) : stepO cmp false d s = (d == 35) := by
  have hp : passB cmp false d s = true := (passB_eq cmp d s).trans h
  unfold stepO
  rw [hp]; rfl

theorem byte32 (c : UInt8) : wrap32 (c.toNat : Int) = c.toNat := by
  have := c.toNat_lt
  unfold wrap32
  omega



set_option maxHeartbeats 800000 in
theorem lStep_any (g : Nat) (cmp over : Bool) (d s : UInt8) (w : World) (hK : Blk w g 141 #[.bool cmp, .bool over]) :
    Calls Tryz.prog 90 #[.pointer (some ⟨g, 0, none⟩), .int .u8 d.toNat, .int .u8 s.toNat] w (StepRet g 141 cmp over d s w) := by
  have hB : Below w.heap.size w (w.alloc (.cells #[.int .i32 d.toNat, .int .i32 s.toNat] 143)) := alloc_below w _
  have hK2 := hK.alloc (.cells #[.int .i32 d.toNat, .int .i32 s.toNat] 143)
  have hP : Blk (w.alloc (.cells #[.int .i32 d.toNat, .int .i32 s.toNat] 143)) w.heap.size 143 #[.int .i32 d.toNat, .int .i32 s.toNat] := Blk.new w _ _
  have v1 := byte32 d
  have v2 := byte32 s
  cases cmp
  case false =>
    cases over
    · cases hp0 : (symB d && (!false || d == s))
      · have e1 : stepC false false d s = 46 := stepC_no hp0
        have e2 : stepO false false d s = true := stepO_no hp0
        have HR := Lib.hid (ruled_f d s)
        rw [hp0] at HR
        clear hp0
        go_enter Tryz.func90, Tryz.ntmps90
        go_upto_region 2 with fail
        generalize w.alloc (.cells #[.int .i32 d.toNat, .int .i32 s.toNat] 143) = w0 at *
        go_wp2_with fail
        refine (lrule_f g false w0 hK2).mono ?_
        rintro e wl ⟨rfl, rfl⟩
        have hq := hK2.at
        have hf := hK2.frozen
        have hp := hP.at
        go_wp2_with fail
        refine (HR.out _).mono ?_
        rintro e w1 ⟨rfl, hb⟩
        replace hB := hB.trans (hb.mono hB.size)
        clear hq hf hp
        have hK3 := hK2.later hb
        have hq := hK3.at
        have hf := hK3.frozen
        go_wp2
        go_ret
        refine ⟨by rw [e1]; rfl, ?_, grown_set hB g 1 _⟩
        rw [e2]
        exact hK3.set 1 _
      · have e1 : stepC false false d s = d := stepC_yes hp0
        have e2 : stepO false false d s = (d == 35) := stepO_yes hp0
        have HR := Lib.hid (ruled_f d s)
        rw [hp0] at HR
        clear hp0
        go_enter Tryz.func90, Tryz.ntmps90
        go_upto_region 2 with fail
        generalize w.alloc (.cells #[.int .i32 d.toNat, .int .i32 s.toNat] 143) = w0 at *
        go_wp2_with fail
        refine (lrule_f g false w0 hK2).mono ?_
        rintro e wl ⟨rfl, rfl⟩
        have hq := hK2.at
        have hf := hK2.frozen
        have hp := hP.at
        go_wp2_with fail
        refine (HR.out _).mono ?_
        rintro e w1 ⟨rfl, hb⟩
        replace hB := hB.trans (hb.mono hB.size)
        clear hq hf hp
        have hP3 := hP.later hb
        have hK3 := hK2.later hb
        have hp := hP3.at
        clear hb
        go_wp2_with fail
        refine (lisTail_any d _).mono ?_
        rintro e w2 ⟨rfl, hb⟩
        replace hB := hB.trans (hb.mono hB.size)
        have hK4 := hK3.later hb
        have hq := hK4.at
        have hf := hK4.frozen
        go_wp2
        go_ret
        refine ⟨by rw [e1]; rfl, ?_, grown_set hB g 1 _⟩
        rw [e2]
        exact hK4.set 1 _
    · have e1 : stepC false true d s = 46 := by simp [stepC, passB]
      have e2 : stepO false true d s = true := by simp [stepO, passB]
      go_enter Tryz.func90, Tryz.ntmps90
      go_upto_region 2 with fail
      generalize w.alloc (.cells #[.int .i32 d.toNat, .int .i32 s.toNat] 143) = w0 at *
      go_wp2_with fail
      refine (lrule_f g true w0 hK2).mono ?_
      rintro e wl ⟨rfl, rfl⟩
      have hq := hK2.at
      have hf := hK2.frozen
      have hp := hP.at
      go_wp2
      go_ret
      refine ⟨by rw [e1]; rfl, ?_, grown_set hB g 1 _⟩
      rw [e2]
      exact hK2.set 1 _
  case true =>
    cases over
    · cases hp0 : (symB d && (!true || d == s))
      · have e1 : stepC true false d s = 46 := stepC_no hp0
        have e2 : stepO true false d s = true := stepO_no hp0
        have HR := Lib.hid (ruled_t d s)
        rw [hp0] at HR
        clear hp0
        go_enter Tryz.func90, Tryz.ntmps90
        go_upto_region 2 with fail
        generalize w.alloc (.cells #[.int .i32 d.toNat, .int .i32 s.toNat] 143) = w0 at *
        go_wp2_with fail
        refine (lrule_t g false w0 hK2).mono ?_
        rintro e wl ⟨rfl, rfl⟩
        have hq := hK2.at
        have hf := hK2.frozen
        have hp := hP.at
        go_wp2_with fail
        refine (HR.out _).mono ?_
        rintro e w1 ⟨rfl, hb⟩
        replace hB := hB.trans (hb.mono hB.size)
        clear hq hf hp
        have hK3 := hK2.later hb
        have hq := hK3.at
        have hf := hK3.frozen
        go_wp2
        go_ret
        refine ⟨by rw [e1]; rfl, ?_, grown_set hB g 1 _⟩
        rw [e2]
        exact hK3.set 1 _
      · have e1 : stepC true false d s = d := stepC_yes hp0
        have e2 : stepO true false d s = (d == 35) := stepO_yes hp0
        have HR := Lib.hid (ruled_t d s)
        rw [hp0] at HR
        clear hp0
        go_enter Tryz.func90, Tryz.ntmps90
        go_upto_region 2 with fail
        generalize w.alloc (.cells #[.int .i32 d.toNat, .int .i32 s.toNat] 143) = w0 at *
        go_wp2_with fail
        refine (lrule_t g false w0 hK2).mono ?_
        rintro e wl ⟨rfl, rfl⟩
        have hq := hK2.at
        have hf := hK2.frozen
        have hp := hP.at
        go_wp2_with fail
        refine (HR.out _).mono ?_
        rintro e w1 ⟨rfl, hb⟩
        replace hB := hB.trans (hb.mono hB.size)
        clear hq hf hp
        have hP3 := hP.later hb
        have hK3 := hK2.later hb
        have hp := hP3.at
        clear hb
        go_wp2_with fail
        refine (lisTail_any d _).mono ?_
        rintro e w2 ⟨rfl, hb⟩
        replace hB := hB.trans (hb.mono hB.size)
        have hK4 := hK3.later hb
        have hq := hK4.at
        have hf := hK4.frozen
        go_wp2
        go_ret
        refine ⟨by rw [e1]; rfl, ?_, grown_set hB g 1 _⟩
        rw [e2]
        exact hK4.set 1 _
    · have e1 : stepC true true d s = 46 := by simp [stepC, passB]
      have e2 : stepO true true d s = true := by simp [stepO, passB]
      go_enter Tryz.func90, Tryz.ntmps90
      go_upto_region 2 with fail
      generalize w.alloc (.cells #[.int .i32 d.toNat, .int .i32 s.toNat] 143) = w0 at *
      go_wp2_with fail
      refine (lrule_t g true w0 hK2).mono ?_
      rintro e wl ⟨rfl, rfl⟩
      have hq := hK2.at
      have hf := hK2.frozen
      have hp := hP.at
      go_wp2
      go_ret
      refine ⟨by rw [e1]; rfl, ?_, grown_set hB g 1 _⟩
      rw [e2]
      exact hK2.set 1 _

end Go.Proofs.YthhmedlefahccaaGreatDoor
/-
  Contract of lane.Out, for all texts.
-/
namespace Go.Proofs.YthhmedlefahccaaGreatDoor
open Go.RowKit Plait
set_option maxRecDepth 100000
set_option linter.unusedVariables false

theorem stepC_pass {cmp o : Bool} {d s : UInt8} (h : passB cmp o d s = true) : stepC cmp o d s = d := by unfold stepC; rw [h]; rfl
theorem stepO_pass {cmp o : Bool} {d s : UInt8} (h : passB cmp o d s = true) : stepO cmp o d s = (d == 35) := by unfold stepO; rw [h]; rfl
theorem stepC_fail {cmp o : Bool} {d s : UInt8} (h : passB cmp o d s = false) : stepC cmp o d s = 46 := by unfold stepC; rw [h]; rfl
theorem stepO_fail {cmp o : Bool} {d s : UInt8} (h : passB cmp o d s = false) : stepO cmp o d s = true := by unfold stepO; rw [h]; rfl

/-- What passes is no dot. -/
theorem pass_dot {cmp o : Bool} {d s : UInt8} (h : passB cmp o d s = true) : ((d.toNat : Int) == 46) = false := by
  rw [beq_eq_false_iff_ne]
  intro e
  have : d = 46 := UInt8.toNat_inj.1 (by simpa using (by omega : d.toNat = 46))
  subst this
  unfold passB at h
  rw [symB_dot] at h
  simp at h

theorem grown_below {w0 w w' : World} {g : Nat} (h : Below w0.heap.size w0 w) (hg : w.grownBy w' (some g)) (hl : w0.heap.size ≤ g) : Below w0.heap.size w0 w' :=
  below_grown h h.size hg (fun k hk => by injection hk with hk; omega)

/-- The loop of Out. -/
def OutAt (cmp : Bool) (a b : List UInt8) (g : Nat) (w : World) (n : Value) (w' : World) : Prop :=
  ∃ (k : Nat) (o : Bool), n = .int .i64 k ∧ LaneAt cmp a b k o ∧ Blk w' g 141 #[.bool cmp, .bool o] ∧ Below w.heap.size w w'

set_option maxHeartbeats 800000 in
theorem lOut_any (cmp : Bool) (a b : List UInt8) (w : World) (ha : a.length ≤ 1099511627776) (hb' : b.length ≤ 1099511627776) :
    Calls Tryz.prog 79 #[.bool cmp, .string ⟨a.toArray⟩, .string ⟨b.toArray⟩] w fun e w' => e = .returned (.string ⟨(outL cmp a b).toArray⟩) ∧ Below w.heap.size w w' := by
  go_enter Tryz.func79, Tryz.ntmps79
  go_wp2_with fail
  refine (lNew_any cmp _).mono ?_
  rintro e w1 ⟨rfl, hw1⟩
  have hB : Below w.heap.size w w1 := by rw [hw1]; exact alloc_below w _
  have hK : Blk w1 w.heap.size 141 #[.bool cmp, .bool false] := by rw [hw1]; exact Blk.new w _ _
  clear hw1
  generalize hgg : w.heap.size = g at *
  go_wp2
  go_loopw [8] (fun n w' => OutAt cmp a b w.heap.size w n w') (fun n _ => a.length - (intOf n).toNat)
  case atStart => exact ⟨0, false, rfl, LaneAt.start cmp a b, by rw [hgg]; exact hK, by rw [hgg]; exact hB⟩
  case round =>
    obtain ⟨k, o, rfl, hL, hKr, hBr⟩ := hrel
    rw [hgg] at hKr
    have HL := Lib.hid hL
    have hle := hL.le
    clear hL
    by_cases hk : k < a.length
    · have d1 : decide (k < a.length) = true := by simpa using hk
      have hpk := padL_in a k hk
      cases hp : passB cmp o (padL a k) (padL b k)
      · have c1 := stepC_fail hp
        have c2 := stepO_fail hp
        have HF := Lib.hid (HL.out.stop hp)
        rw [hpk] at c1 c2
        clear hp hpk
        go_wp2_with fail
        go_region_held3 (fun W => True) (trivial) (first
          | (go_at_call 91; refine (lat_any b k _ ?_ ?_).mono ?_; omega; omega; rintro e wl ⟨rfl, rfl⟩)
          | (go_at_call 90; refine (lStep_any g cmp o _ _ _ hKr.drew1).mono ?_; rintro e wm ⟨rfl, hk2, hg2⟩; rw [c1]; rw [c2] at hk2))
        all_goals
          have hB2 : Below w.heap.size w wm := grown_below hBr.drew hg2 (by omega)
          go_wp2_with (go_at_call 58; refine (clone_any _ _ (by rw [size_mk]; simp; omega)).mono ?_; rintro e w3 ⟨rfl, hb3⟩)
          go_ret
          exact ⟨ret_str (by rw [HF.out]), hB2.trans (hb3.mono hB2.size)⟩
      · have c1 := stepC_pass hp
        have c2 := stepO_pass hp
        have c3 := pass_dot hp
        obtain ⟨HN, _⟩ := HL.out.next hp
        have HN := Lib.hid HN
        rw [hpk] at c1 c2 c3
        clear hp
        go_wp2_with fail
        go_region_held3 (fun W => True) (trivial) (first
          | (go_at_call 91; refine (lat_any b k _ ?_ ?_).mono ?_; omega; omega; rintro e wl ⟨rfl, rfl⟩)
          | (go_at_call 90; refine (lStep_any g cmp o _ _ _ hKr.drew1).mono ?_; rintro e wm ⟨rfl, hk2, hg2⟩; rw [c1]; rw [c2] at hk2))
        all_goals
          have hB2 : Below w.heap.size w wm := grown_below hBr.drew hg2 (by omega)
          go_wp2
          go_roundw
          case rel => exact ⟨k + 1, _, by go_num, HN.out, by rw [hgg, hpk]; exact hk2, hB2⟩
          case measure => simp [intOf]; omega
    · have d1 : decide (k < a.length) = false := by simpa using hk
      have hka : k = a.length := by omega
      subst hka
      have HF := Lib.hid HL.out.done
      go_wp2
      go_quiet (fail)
      go_wp2_with (go_at_call 58; refine (clone_any _ _ (by rw [size_mk]; omega)).mono ?_; rintro e w3 ⟨rfl, hb3⟩)
      go_ret
      have hB2 := below_drewN hBr nq
      exact ⟨ret_str (by rw [HF.out]), hB2.trans (hb3.mono hB2.size)⟩

end Go.Proofs.YthhmedlefahccaaGreatDoor
/-
  Contracts of package fault, first part: remainders, picks, where a locus is.
-/
namespace Go.Proofs.YthhmedlefahccaaGreatDoor
open Go.RowKit Plait
set_option maxRecDepth 100000
set_option linter.unusedVariables false

theorem lrem_any (a n : Int) (w : World) (hn : 0 < n) (hn2 : n ≤ 1099511627776) :
    Calls Tryz.prog 121 #[.int .i64 a, .int .i64 n] w fun e w' => e = .returned (.int .i64 (a % n)) ∧ w = w' := by
  have b1 : 0 ≤ a % n := Int.emod_nonneg _ (by omega)
  have b2 : a % n < n := Int.emod_lt_of_pos _ hn
  by_cases h0 : 0 ≤ a
  · go_enter Tryz.func121, Tryz.ntmps121
    go_wp2
    go_ret
    exact ⟨rfl, rfl⟩
  · have h1 : a.tmod n = -((-a) % n) := by
      rw [show a = -(-a) by omega, Int.neg_tmod, Int.tmod_eq_emod_of_nonneg (by omega)]; simp
    have c1 : 0 ≤ (-a) % n := Int.emod_nonneg _ (by omega)
    have c2 : (-a) % n < n := Int.emod_lt_of_pos _ hn
    by_cases hz : (-a) % n = 0
    · have h2 : a.tmod n = 0 := by rw [h1, hz]; rfl
      have HF := Lib.hid (show (0 : Int) = a % n by
        have : n ∣ -a := Int.dvd_of_emod_eq_zero hz
        exact (Int.emod_eq_zero_of_dvd (Int.dvd_neg.1 this)).symm)
      clear h1 hz c1 c2 b1 b2
      go_enter Tryz.func121, Tryz.ntmps121
      go_wp2
      go_ret
      exact ⟨ret_int HF.out, rfl⟩
    · obtain ⟨r, hr⟩ : ∃ r, r = (-a) % n := ⟨_, rfl⟩
      rw [← hr] at h1 c1 c2 hz
      have HF := Lib.hid (show -r + n = a % n by
        have e := Int.emod_add_mul_ediv (-a) n
        rw [← hr] at e
        have e2 : a = (-r + n) + n * (-((-a) / n) - 1) := by rw [Int.mul_sub, Int.mul_neg]; omega
        rw [e2, Int.add_mul_emod_self_left]
        exact (Int.emod_eq_of_lt (by omega) (by omega)).symm)
      clear hr b1 b2
      go_enter Tryz.func121, Tryz.ntmps121
      go_wp2
      go_ret
      exact ⟨ret_int HF.out, rfl⟩

theorem lvalue_any (n : Int) (w : World) :
    Calls Tryz.prog 124 #[.int .i64 n] w fun e w' => e = .returned (.agg #[.int .i64 2, .int .i64 (n % 256)]) ∧ Below w.heap.size w w' := by
  have hB : Below w.heap.size w (w.alloc (.cells #[.int .i64 0, .int .i64 0] 29)) := alloc_below w _
  have hK : Blk (w.alloc (.cells #[.int .i64 0, .int .i64 0] 29)) w.heap.size 29 #[.int .i64 0, .int .i64 0] := Blk.new w _ _
  have hQ := hK.at
  have hZ := hK.frozen
  go_enter Tryz.func124, Tryz.ntmps124
  go_wp2_with fail
  refine (lrem_any n 256 _ (by omega) (by omega)).mono ?_
  rintro e wl ⟨rfl, rfl⟩
  go_wp2
  refine bodyPost_ret (v := .agg #[.int .i64 2, .int .i64 (n % 256)]) (by simp [results, Tryz.results124, go_sem]) rfl ⟨rfl, alloc_below _ _⟩

theorem lnowhere_sends (x n a b : Int) (w : World) :
    Calls Tryz.prog 184 #[.int .i64 x, .int .i64 n, .int .i64 a, .int .i64 b] w fun e w' => e = .returned (.bool false) ∧ w = w' := by
  go_enter Tryz.func184, Tryz.ntmps184
  go_wp2
  go_ret
  exact ⟨rfl, rfl⟩

theorem latNode_isOf (x i : Int) (w : World) :
    Calls Tryz.prog 187 #[.int .i64 x, .int .i64 i] w fun e w' => e = .returned (.bool (x == i)) ∧ w = w' := by
  go_enter Tryz.func187, Tryz.ntmps187
  go_wp2
  go_ret
  exact ⟨rfl, rfl⟩

theorem latNode_sends (x n a b : Int) (w : World) :
    Calls Tryz.prog 186 #[.int .i64 x, .int .i64 n, .int .i64 a, .int .i64 b] w fun e w' => e = .returned (.bool (x == a)) ∧ w = w' := by
  go_enter Tryz.func186, Tryz.ntmps186
  go_wp2_with fail
  refine (latNode_isOf x a _).mono ?_
  rintro e wl ⟨rfl, rfl⟩
  go_wp2
  go_ret
  exact ⟨rfl, rfl⟩

theorem latLink_sends (x n a b : Int) (w : World) (hn : 0 < n) (hn2 : n ≤ 1000000) (ha : inI a) (hb : inI b) :
    Calls Tryz.prog 189 #[.int .i64 x, .int .i64 n, .int .i64 a, .int .i64 b] w fun e w' => e = .returned (.bool ((linkI n a b).2 && (linkI n a b).1 == x)) ∧ Below w.heap.size w w' := by
  have HL := Lib.hid (fun W => gLink_any n a b W hn hn2 ha hb)
  generalize linkI n a b = p at *
  obtain ⟨k, is⟩ := p
  cases is
  · go_enter Tryz.func189, Tryz.ntmps189
    go_wp2_with fail
    refine (HL.out _).mono ?_
    rintro e wn ⟨rfl, hb⟩
    go_wp2
    go_ret
    exact ⟨rfl, hb⟩
  · go_enter Tryz.func189, Tryz.ntmps189
    go_wp2_with fail
    refine (HL.out _).mono ?_
    rintro e wn ⟨rfl, hb⟩
    go_wp2
    go_ret
    exact ⟨ret_bool (by simp), hb⟩

/-- Where a locus is, as a value. -/
def locV (f : Fa) : Value := if f.K = 0 then .iface 161 (.int .i64 f.At) else if f.K = 1 then .iface 162 (.int .i64 f.At) else if f.K = 2 then .iface 163 (.int .i64 f.At) else .iface 161 (.int .i64 0)

theorem ret_loc {a b : Value} {p q : Bool} (h : a = b) (h' : p = q) : Ending.returned (.tuple #[a, .bool p]) = .returned (.tuple #[b, .bool q]) := by rw [h, h']

set_option maxHeartbeats 800000 in
theorem llocusOf_any (f : Fa) (a : Option Addr) (ac : Nat) (d : Option Addr) (dc : Nat) (w : World) :
    Calls Tryz.prog 120 #[.agg #[.int .i64 f.K, .int .i64 f.At, .int .i64 f.F, .int .i64 f.To, .slice a f.A.length ac, .slice d f.D.length dc]] w fun e w' => e = .returned (.tuple #[locV f, .bool (knownL f)]) ∧ Below w.heap.size w w' := by
  by_cases k0 : f.K = 0
  · have HV := Lib.hid (show locV f = .iface 161 (.int .i64 f.At) by unfold locV; rw [if_pos k0])
    have HF := Lib.hid (show knownL f = true by unfold knownL; simp [k0])
    have c0 : (f.K == 0) = true := by simpa using k0
    clear k0
    go_enter Tryz.func120, Tryz.ntmps120
    go_wp2
    go_ret2
    exact ⟨ret_loc HV.out.symm HF.out.symm, alloc_below _ _⟩
  · have c0 : (f.K == 0) = false := by simpa using k0
    by_cases k1 : f.K = 1
    · have HV := Lib.hid (show locV f = .iface 162 (.int .i64 f.At) by unfold locV; rw [if_neg k0, if_pos k1])
      have HF := Lib.hid (show knownL f = true by unfold knownL; simp [k1])
      have c1 : (f.K == 1) = true := by simpa using k1
      clear k0 k1
      go_enter Tryz.func120, Tryz.ntmps120
      go_wp2
      go_ret2
      exact ⟨ret_loc HV.out.symm HF.out.symm, alloc_below _ _⟩
    · have c1 : (f.K == 1) = false := by simpa using k1
      by_cases k2 : f.K = 2
      · have HV := Lib.hid (show locV f = .iface 163 (.int .i64 f.At) by unfold locV; rw [if_neg k0, if_neg k1, if_pos k2])
        have HF := Lib.hid (show knownL f = true by unfold knownL; simp [k2])
        have c2 : (f.K == 2) = true := by simpa using k2
        clear k0 k1 k2
        go_enter Tryz.func120, Tryz.ntmps120
        go_wp2
        go_ret2
        exact ⟨ret_loc HV.out.symm HF.out.symm, alloc_below _ _⟩
      · have HV := Lib.hid (show locV f = .iface 161 (.int .i64 0) by unfold locV; rw [if_neg k0, if_neg k1, if_neg k2])
        have HF := Lib.hid (show knownL f = false by unfold knownL; simp [k0, k1, k2])
        have c2 : (f.K == 2) = false := by simpa using k2
        clear k0 k1 k2
        go_enter Tryz.func120, Tryz.ntmps120
        go_wp2
        go_ret2
        exact ⟨ret_loc HV.out.symm HF.out.symm, alloc_below _ _⟩

end Go.Proofs.YthhmedlefahccaaGreatDoor
/-
  Contracts of package fault, second part: whether a locus may be, whom it hits, who is right, how its clock seems.
-/
namespace Go.Proofs.YthhmedlefahccaaGreatDoor
open Go.RowKit Plait
set_option maxRecDepth 100000
set_option linter.unusedVariables false

end Go.Proofs.YthhmedlefahccaaGreatDoor
/-
  Contracts of package fault, third part: whom a locus hits, who is right, how its clock seems.
-/
namespace Go.Proofs.YthhmedlefahccaaGreatDoor
open Go.RowKit Plait
set_option maxRecDepth 100000
set_option linter.unusedVariables false

set_option maxHeartbeats 1600000 in
theorem lHits_any (c : Cf) (ca : Option Addr) (cc : Nat) (f : Fa) (a : Option Addr) (ac : Nat) (d : Option Addr) (dc : Nat) (i j : Int) (w : World) (hc : c.Ok) (hi : inI i) (hj : inI j) :
    Calls Tryz.prog 113 #[.agg #[.int .i64 c.N, .int .i64 c.Pi, .int .i64 c.E, .int .i64 c.G, .int .i64 c.F, .slice ca c.P.length cc], .agg #[.int .i64 f.K, .int .i64 f.At, .int .i64 f.F, .int .i64 f.To, .slice a f.A.length ac, .slice d f.D.length dc], .int .i64 i, .int .i64 j] w fun e w' => e = .returned (.bool (hitsB c f i j)) ∧ Below w.heap.size w w' := by
  have hB0 : Below w.heap.size w ((w.alloc (.cells #[.int .i64 c.N, .int .i64 c.Pi, .int .i64 c.E, .int .i64 c.G, .int .i64 c.F, .slice ca c.P.length cc] 24)).alloc (.cells #[.int .i64 f.K, .int .i64 f.At, .int .i64 f.F, .int .i64 f.To, .slice a f.A.length ac, .slice d f.D.length dc] 27)) := (alloc_below w _).alloc (by simp) _
  have hC : Blk ((w.alloc (.cells #[.int .i64 c.N, .int .i64 c.Pi, .int .i64 c.E, .int .i64 c.G, .int .i64 c.F, .slice ca c.P.length cc] 24)).alloc (.cells #[.int .i64 f.K, .int .i64 f.At, .int .i64 f.F, .int .i64 f.To, .slice a f.A.length ac, .slice d f.D.length dc] 27)) w.heap.size 24 (confBox c ca cc) := (Blk.new w _ _).alloc _
  have HL := Lib.hid (fun W => llocusOf_any f a ac d dc W)
  have h6 := hc.n6
  have h12 := hc.n12
  have hE : ∃ t x, locV f = .iface t (.int .i64 x) ∧ ∃ g, (t = 161 ∧ g = 184 ∨ t = 162 ∧ g = 186 ∨ t = 163 ∧ g = 189) ∧ ∀ W, Calls Tryz.prog g #[.int .i64 x, .int .i64 c.N, .int .i64 i, .int .i64 j] W fun e w' => e = .returned (.bool (hitsB c f i j)) ∧ Below W.heap.size W w' := by
    unfold hitsB locV
    by_cases k1 : f.K = 1
    · exact ⟨_, f.At, by rw [if_neg (by omega), if_pos k1], _, .inr (.inl ⟨rfl, rfl⟩), fun W => by rw [if_pos k1]; exact (latNode_sends _ _ _ _ W).mono fun e w' ⟨h1, h2⟩ => ⟨h1, h2 ▸ Below.refl _ _⟩⟩
    · by_cases k2 : f.K = 2
      · exact ⟨_, f.At, by rw [if_neg (by omega), if_neg k1, if_pos k2], _, .inr (.inr ⟨rfl, rfl⟩), fun W => by rw [if_neg k1, if_pos k2]; exact latLink_sends _ _ _ _ W (by omega) (by omega) hi hj⟩
      · by_cases k0 : f.K = 0
        · exact ⟨_, f.At, by rw [if_pos k0], _, .inl ⟨rfl, rfl⟩, fun W => by rw [if_neg k1, if_neg k2]; exact (lnowhere_sends _ _ _ _ W).mono fun e w' ⟨h1, h2⟩ => ⟨h1, h2 ▸ Below.refl _ _⟩⟩
        · exact ⟨_, 0, by rw [if_neg k0, if_neg k1, if_neg k2], _, .inl ⟨rfl, rfl⟩, fun W => by rw [if_neg k1, if_neg k2]; exact (lnowhere_sends _ _ _ _ W).mono fun e w' ⟨h1, h2⟩ => ⟨h1, h2 ▸ Below.refl _ _⟩⟩
  obtain ⟨t, x, hV, g, hg, hM⟩ := hE
  rw [hV] at HL
  have HM := Lib.hid hM
  clear hM hV
  rcases hg with ⟨rfl, rfl⟩ | ⟨rfl, rfl⟩ | ⟨rfl, rfl⟩
  all_goals
    go_enter Tryz.func113, Tryz.ntmps113
    go_wp2_with fail
    refine (HL.out _).mono ?_
    rintro e wn ⟨rfl, hb⟩
    replace hB0 := hB0.trans (hb.mono hB0.size)
    replace hC := hC.later hb
    have hQ := hC.at
    unfold confBox at hQ
    clear hb
    go_wp2_with fail
    refine (HM.out _).mono ?_
    rintro e wm ⟨rfl, hb⟩
    go_wp2
    go_ret
    exact ⟨rfl, hB0.trans (hb.mono hB0.size)⟩

theorem emod_at {α : Type} (xs : List α) (n : Int) (h : 0 < xs.length) : ∃ k : Nat, n % (xs.length : Int) = k ∧ k < xs.length := by
  have h1 := Int.emod_nonneg n (show (xs.length : Int) ≠ 0 by omega)
  have h2 := Int.emod_lt_of_pos n (show 0 < (xs.length : Int) by omega)
  exact ⟨(n % (xs.length : Int)).toNat, by omega, by omega⟩

theorem lpickA_any (a : Option Addr) (A : List Ac) (cap : Nat) (n : Int) (w : World) (hA : RowA w a A) (h0 : 0 < A.length) (hl : A.length ≤ 1000000) :
    Calls Tryz.prog 115 #[.slice a A.length cap, .int .i64 n] w fun e w' => e = .returned (.agg #[.int .i64 (pickA A n).H, .int .i64 (pickA A n).N, .string ⟨(pickA A n).T.toArray⟩]) ∧ Below w.heap.size w w' := by
  obtain ⟨k, hk, hk2⟩ := emod_at A n h0
  have HR := Lib.hid (fun W => lrem_any n A.length W (by omega) (by omega))
  rw [hk] at HR
  obtain ⟨b, off, rfl, hlt, c1, c2, c3, _, _⟩ := hA.get k hk2
  have HF := Lib.hid (show pickA A n = A[k] by unfold pickA; rw [hk]; simp [hk2])
  rw [HF.out]
  clear hk
  generalize A[k] = t at *
  go_enter Tryz.func115, Tryz.ntmps115
  go_wp2_with fail
  refine (HR.out _).mono ?_
  rintro e wl ⟨rfl, rfl⟩
  go_wp2
  refine bodyPost_ret (v := .agg #[.int .i64 t.H, .int .i64 t.N, .string ⟨t.T.toArray⟩]) (by simp [results, Tryz.results115, go_sem]) rfl ⟨rfl, alloc_below _ _⟩

end Go.Proofs.YthhmedlefahccaaGreatDoor
/-
  math/bits.Mul, by the shelf's contract.
-/
namespace Go.Proofs
open Go.Shelf
set_option maxRecDepth 100000

def Tryz.mul6_ren : Go.Shelf.Ren := ⟨fun | 212 => 140 | 263 => 151 | 264 => 152 | n => n, fun | 46 => 104 | 51 => 184 | 146 => 185 | 53 => 187 | 148 => 188 | n => n, fun | n => n⟩
theorem Tryz.mul6 : Go.Proofs.Lays.n212 Tryz.prog Tryz.mul6_ren := {
  mixed := by kernel_rfl
  f212 := Tryz.func140.trans (congrArg some (by kernel_rfl))
  f263 := Tryz.func151.trans (congrArg some (by kernel_rfl))
  f264 := Tryz.func152.trans (congrArg some (by kernel_rfl))
  t46 := Tryz.underlying104
  a46 := Tryz.isAgg104
  z46 := Tryz.sizeOf104
  v46 := Tryz.zeroValue104
  t51 := Tryz.underlying184
  a51 := Tryz.isAgg184
  z51 := Tryz.sizeOf184
  v51 := Tryz.zeroValue184
  t53 := Tryz.underlying187
  a53 := Tryz.isAgg187
  z53 := Tryz.sizeOf187
  v53 := Tryz.zeroValue187
  t146 := Tryz.underlying185
  a146 := Tryz.isAgg185
  z146 := Tryz.sizeOf185
  v146 := Tryz.zeroValue185
  t148 := Tryz.underlying188
  a148 := Tryz.isAgg188
  z148 := Tryz.sizeOf188
  v148 := Tryz.zeroValue188 }
open Go.RowKit Go.Lib in
theorem Tryz.bits_Mul6 (x y : Nat) (hx : x < 18446744073709551616) (hy : y < 18446744073709551616) (w : World) :
    Calls Tryz.prog 140 #[.int .u64 x, .int .u64 y] w fun e w' => e = .returned (.tuple #[.int .u64 ((x * y / 18446744073709551616 : Nat) : Int), .int .u64 ((x * y % 18446744073709551616 : Nat) : Int)]) ∧ w' = w := Any.bits_Mul Tryz.mul6 x y hx hy w

end Go.Proofs
/-
  slices.Repeat of one item: a row of so many of it.
-/
namespace Go.Proofs.YthhmedlefahccaaGreatDoor
open Go.RowKit Plait
set_option maxRecDepth 100000
set_option linter.unusedVariables false

/-- copy between rows of items, into a row that is known whole. -/
theorem run_copy_items (w : World) (ty : TypeId) (g o dLen dCap : Nat) (a : Addr) (sLen sCap : Nat) (cur : Array Value) (t : TypeId) (cs : List Value)
    (hg : w.heap[g]? = some (.cells cur t (0, 0))) (hn : cs.length = Nat.min sLen dLen * 2)
    (hsrc : ∀ j v, cs[j]? = some v → w.cell? (a.add j) = some v) (hfit : o + cs.length ≤ cur.size) (h1 : ∀ v ∈ cs, v.oneCell' = true) :
    (Builtin.copy_ #[30, 30] ty #[.slice (some ⟨g, o, none⟩) dLen dCap, .slice (some a) sLen sCap]).run Tryz.prog w =
      .ok (goInt (Nat.min sLen dLen)) (w.setRow g (cur.toList.take o ++ cs ++ cur.toList.drop (o + cs.length)).toArray) := by
  have hl := run_loadCells_list (P := Tryz.prog) w a cs hsrc
  have hst := run_storeCells_at Tryz.prog g o t cs 0 cur w hg (by simpa using hfit) h1
  obtain ⟨i, hi, hz0, hz1, hz2⟩ := info_parts infoItem
  simp [Builtin.copy_, run_underlying Tryz.underlying30, Builtin.lenOf, Builtin.firstCells, sizeOf, typeInfo, hi, hz1, ← hn, hl, hst]

theorem itCells_rep (t : It) (n k : Nat) : itCells (List.replicate (n + k) t) = itCells (List.replicate n t) ++ itCells (List.replicate k t) := by
  rw [← itCells_append, List.replicate_append_replicate]

/-- So far filled. -/
structure RepAt (t : It) (m g n : Nat) (W : World) : Prop where
  ex : ∃ cur : Array Value, Blk W g 29 cur ∧ cur.size = m * 2 ∧ cur.toList.take (n * 2) = itCells (List.replicate n t)

theorem RepAt.row {t : It} {m g : Nat} {W : World} (h : RepAt t m g m W) (hm : m ≤ 1000000) (hK : inI t.K) (hV : inI t.V) : RowT W (some ⟨g, 0, none⟩) (List.replicate m t) := by
  obtain ⟨cur, hk, hs, hc⟩ := h.ex
  refine ⟨by simp; omega, fun u hu => by rw [List.eq_of_mem_replicate hu]; exact ⟨hK, hV⟩, .inr ⟨g, 0, rfl, hk.lt, fun i hi => ?_⟩⟩
  have hl : cur.toList = itCells (List.replicate m t) := by rw [← hc, List.take_of_length_le (by simp; omega)]
  have h2 := itCells_get _ i hi
  constructor
  · rw [hk.at, ← Array.getElem?_toList, hl, Nat.zero_add]; exact h2.1
  · rw [hk.at, ← Array.getElem?_toList, hl, Nat.zero_add]; exact h2.2

/-- One step: k items more. -/
theorem rep_step {t : It} {m n k : Nat} {cur : Array Value} (hs : cur.size = m * 2) (hc : cur.toList.take (n * 2) = itCells (List.replicate n t)) (hk : n + k ≤ m) :
    (cur.toList.take (n * 2) ++ itCells (List.replicate k t) ++ cur.toList.drop (n * 2 + (itCells (List.replicate k t)).length)).toArray.size = m * 2 ∧
    (cur.toList.take (n * 2) ++ itCells (List.replicate k t) ++ cur.toList.drop (n * 2 + (itCells (List.replicate k t)).length)).toArray.toList.take ((n + k) * 2) = itCells (List.replicate (n + k) t) := by
  have hl : (itCells (List.replicate k t)).length = k * 2 := by rw [itCells_len]; simp
  have hl2 : (itCells (List.replicate n t)).length = n * 2 := by rw [itCells_len]; simp
  constructor
  · simp [hl]; omega
  · simp only [hc]
    rw [List.take_append_of_le_length (by rw [List.length_append, hl, hl2]; omega), List.take_of_length_le (by rw [List.length_append, hl, hl2]; omega), ← itCells_rep]

theorem made_items (m : Nat) (hm : m ≤ 1000000) : ∃ M : Array Value, M.size = m * 2 ∧ ∀ W : World, (Instr.makeSlice 30 (.int .i64 (m : Int)) (.int .i64 (m : Int))).run Tryz.prog W = .ok (.slice (some ⟨W.heap.size, 0, none⟩) m m) (W.alloc (.cells M 29)) := by
  obtain ⟨i, hi, hz0, hz1, hz2⟩ := info_parts infoItem
  refine ⟨madeCells (Value.agg #[.int .i64 0, .int .i64 0]).cells (((m : Nat) : Int).toNat * i.size), by rw [size_madeCells, hz1]; simp, fun W => ?_⟩
  have h := run_make (P := Tryz.prog) W 30 29 i (.agg #[.int .i64 0, .int .i64 0]) Tryz.underlying30 hi hz0 .i64 .i64 (m : Int) (m : Int) (by omega) (by omega) (by rw [hz2]; omega) (by omega)
  simpa using h

theorem setRow_blk {w : World} {g : Nat} {t : TypeId} {cur : Array Value} (h : Blk w g t cur) (cs : Array Value) : Blk (w.setRow g cs) g t cs := setRow_heap w g cur cs t (0, 0) h

/-- A copy of k items more into the row. -/
theorem rep_copy {t : It} {m g n k : Nat} {W : World} (h : RepAt t m g n W) (a : Addr) (dLen dCap sLen sCap : Nat) (hk : k = Nat.min sLen dLen) (hnk : n + k ≤ m) (hsrc : ∀ j, j < k → W.cell? (a.add (j * 2)) = some (.int .i64 t.K) ∧ W.cell? (a.add (j * 2 + 1)) = some (.int .i64 t.V)) :
    ∃ W' : World, (∀ ty, (Builtin.copy_ #[30, 30] ty #[.slice (some ⟨g, n * 2, none⟩) dLen dCap, .slice (some a) sLen sCap]).run Tryz.prog W = .ok (.int .i64 (k : Int)) W') ∧ RepAt t m g (n + k) W' ∧ ∀ B w0, Below B w0 W → B ≤ g → Below B w0 W' := by
  obtain ⟨cur, hB, hs, hc⟩ := h.ex
  have hl : (itCells (List.replicate k t)).length = k * 2 := by rw [itCells_len]; simp
  have hst := rep_step hs hc hnk (t := t)
  refine ⟨W.setRow g (cur.toList.take (n * 2) ++ itCells (List.replicate k t) ++ cur.toList.drop (n * 2 + (itCells (List.replicate k t)).length)).toArray, fun ty => ?_, ⟨_, setRow_blk hB _, hst.1, hst.2⟩, fun B w0 hb hBg => hb.trans ⟨rfl, rfl, rfl, by simp [World.setRow], fun j hj => setRow_other W g j _ (by omega)⟩⟩
  rw [run_copy_items W ty g (n * 2) dLen dCap a sLen sCap cur 29 (itCells (List.replicate k t)) hB (by rw [hl, hk]) ?_ (by rw [hl, hs]; omega) (itCells_one _), ← hk]
  · rfl
  · intro j v hj
    have hlt : j < k * 2 := by
      rcases Nat.lt_or_ge j (k * 2) with h' | h'
      · exact h'
      · rw [List.getElem?_eq_none (by omega)] at hj; cases hj
    obtain ⟨q, hq⟩ : ∃ q, j = q * 2 ∨ j = q * 2 + 1 := ⟨j / 2, by omega⟩
    have hg := itCells_get (List.replicate k t) q (by simp; omega)
    rcases hq with rfl | rfl
    · rw [hg.1] at hj
      rw [← hj, List.getElem_replicate]
      exact (hsrc q (by omega)).1
    · rw [hg.2] at hj
      rw [← hj, List.getElem_replicate]
      exact (hsrc q (by omega)).2

theorem RepAt.cells {t : It} {m g n : Nat} {W : World} (h : RepAt t m g n W) (j : Nat) (hj : j < n) : W.cell? ⟨g, j * 2, none⟩ = some (.int .i64 t.K) ∧ W.cell? ⟨g, j * 2 + 1, none⟩ = some (.int .i64 t.V) := by
  obtain ⟨cur, hk, hs, hc⟩ := h.ex
  have hg := itCells_get (List.replicate n t) j (by simpa using hj)
  rw [List.getElem_replicate, ← hc] at hg
  rw [List.getElem?_take, if_pos (by omega), List.getElem?_take, if_pos (by omega)] at hg
  exact ⟨by rw [hk.at, ← Array.getElem?_toList]; exact hg.1, by rw [hk.at, ← Array.getElem?_toList]; exact hg.2⟩
theorem RepAt.drew {t : It} {m g n : Nat} {W : World} (h : RepAt t m g n W) : RepAt t m g n W.drew := ⟨h.ex⟩

set_option maxHeartbeats 1600000 in
theorem lrepeat_any (t : It) (H c m : Nat) (w : World) (hH : Blk w H 29 #[.int .i64 t.K, .int .i64 t.V]) (hm : m ≤ 1000) (hK : inI t.K) (hV : inI t.V) :
    Calls Tryz.prog 126 #[.slice (some ⟨H, 0, none⟩) 1 c, .int .i64 m] w fun e w' => ∃ (a : Option Addr) (cap : Nat), e = .returned (.slice a m cap) ∧ RowT w' a (List.replicate m t) ∧ (∀ x, a = some x → w.heap.size ≤ x.block) ∧ Below w.heap.size w w' := by
  obtain ⟨M, hM, hmake⟩ := made_items m (by omega)
  have hmul := Lib.hid (fun W => Tryz.bits_Mul6 1 m (by omega) (by omega) W)
  have e1 : 1 * m / 18446744073709551616 = 0 := by omega
  have e2 : 1 * m % 18446744073709551616 = m := by omega
  rw [e1, e2] at hmul
  have hHa := (hH.alloc (.cells M 29)).at
  obtain ⟨k0, hk0⟩ : ∃ k, k = Nat.min 1 m := ⟨_, rfl⟩
  have hk1 : k0 ≤ 1 := by rw [hk0]; exact Nat.min_le_left _ _
  have hk2 : k0 ≤ m := by rw [hk0]; exact Nat.min_le_right _ _
  have hk3 : m = 0 ∨ 0 < k0 := by
    rcases Nat.eq_zero_or_pos m with h | h
    · exact .inl h
    · exact .inr (by rw [hk0]; exact Nat.lt_min.2 ⟨by omega, h⟩)
  have hR0 : RepAt t m w.heap.size 0 (w.alloc (.cells M 29)) := ⟨M, Blk.new w _ _, hM, by simp [itCells]⟩
  obtain ⟨W1, hcopy, hR1, hB1⟩ := rep_copy hR0 ⟨H, 0, none⟩ m m 1 c hk0 (by omega) (fun j hj => by
    have : j = 0 := by omega
    subst this
    rw [addr_at, addr_at]
    exact ⟨by rw [hHa]; rfl, by rw [hHa]; rfl⟩)
  have hB := hB1 _ _ (alloc_below w (.cells M 29)) (Nat.le_refl _)
  rw [Nat.zero_mul] at hcopy
  rw [Nat.zero_add] at hR1
  clear hM e1 e2 hHa hR0 hB1 hk0 hH
  go_enter Tryz.func126, Tryz.ntmps126
  go_wp2_with fail
  refine (hmul.out _).mono ?_
  rintro e wl ⟨rfl, rfl⟩
  go_wp2_with fail
  clear hcopy hmake hmul
  go_loopw [8] (fun v w' => ∃ n : Nat, n ≤ m ∧ (m = 0 ∨ 0 < n) ∧ v = .int .i64 n ∧ RepAt t m wl.heap.size n w' ∧ Below wl.heap.size wl w') (fun v _ => m - (intOf v).toNat)
  case atStart => exact ⟨k0, hk2, hk3, rfl, hR1, hB⟩
  case round =>
    obtain ⟨n, hn, hn0, rfl, hR, hb⟩ := hrel
    clear hB hR1
    by_cases hlt : n < m
    · have d1 : decide ((n : Int) < (m : Int)) = true := by simp; omega
      obtain ⟨k, hk⟩ : ∃ k, k = Nat.min n (m - n) := ⟨_, rfl⟩
      have hk5 : k ≤ m - n := by rw [hk]; exact Nat.min_le_right _ _
      have hk1 : n + k ≤ m := by omega
      have hk4 : k ≤ n := by rw [hk]; exact Nat.min_le_left _ _
      have hk2 : 0 < k := by rw [hk]; exact Nat.lt_min.2 ⟨by omega, by omega⟩
      obtain ⟨W2, hcopy, hR2, hB2⟩ := rep_copy hR.drew ⟨wl.heap.size, 0, none⟩ (m - n) (m - n) n m hk hk1 (fun j hj => by
        rw [addr_at, addr_at, Nat.zero_add, Nat.zero_add]
        exact hR.drew.cells j (by omega))
      have hb2 := hB2 _ _ hb.drew (Nat.le_refl _)
      clear hB2 hk
      go_wp2_with fail
      have z1 : IntKind.i64.wrap ((n : Int) + (k : Int)) = (n : Int) + k := wrap_in _ (by omega) (by omega)
      have hne : (m = n) = False := by simp; omega
      go_region_law (fail)
      all_goals go_simp
      all_goals go_wp2
      all_goals go_roundw
      case rel => exact ⟨n + k, by omega, .inr (by omega), by go_num, hR2, hb2⟩
      case measure => simp [intOf]; omega
    · have : n = m := by omega
      subst this
      go_wp2
      go_ret
      exact ⟨_, _, rfl, hR.row (by omega) hK hV, fun x hx => by injection hx with hx; subst hx; exact Nat.le_refl _, hb⟩

end Go.Proofs.YthhmedlefahccaaGreatDoor
/-
  Contracts of package fault, fourth part: the frames that a locus makes.
-/
namespace Go.Proofs.YthhmedlefahccaaGreatDoor
open Go.RowKit Plait
set_option maxRecDepth 100000
set_option linter.unusedVariables false
set_option linter.unusedSimpArgs false

/-- A frame laid into a result's place. -/
theorem fr_end (f : Fr) (w wr : World) (rb : Nat) (av : Option Addr) (cv : Nat) (hB : Below w.heap.size w wr) (hrb : w.heap.size ≤ rb) (k2 : Blk wr rb 32 zeroBox) (hr : RowT wr av f.E) (hne : f.E = [] ∨ ∀ x, av = some x → x.block ≠ rb) :
    Blk ((((((wr.setCell ⟨rb, 0, none⟩ (.int .i64 f.K)).setCell ⟨rb, 1, none⟩ (.int .i64 f.R)).setCell ⟨rb, 2, none⟩ (.int .i64 f.S)).setCell ⟨rb, 3, none⟩ (.int .i64 f.P.K)).setCell ⟨rb, 4, none⟩ (.int .i64 f.P.V)).setCell ⟨rb, 5, none⟩ (.slice av f.E.length cv)) rb 32 (frBox f av cv) ∧
    Below w.heap.size w ((((((wr.setCell ⟨rb, 0, none⟩ (.int .i64 f.K)).setCell ⟨rb, 1, none⟩ (.int .i64 f.R)).setCell ⟨rb, 2, none⟩ (.int .i64 f.S)).setCell ⟨rb, 3, none⟩ (.int .i64 f.P.K)).setCell ⟨rb, 4, none⟩ (.int .i64 f.P.V)).setCell ⟨rb, 5, none⟩ (.slice av f.E.length cv)) ∧
    RowT ((((((wr.setCell ⟨rb, 0, none⟩ (.int .i64 f.K)).setCell ⟨rb, 1, none⟩ (.int .i64 f.R)).setCell ⟨rb, 2, none⟩ (.int .i64 f.S)).setCell ⟨rb, 3, none⟩ (.int .i64 f.P.K)).setCell ⟨rb, 4, none⟩ (.int .i64 f.P.V)).setCell ⟨rb, 5, none⟩ (.slice av f.E.length cv)) av f.E := by
  unfold zeroBox at k2
  refine ⟨((((((k2.set 0 (.int .i64 f.K)).set 1 (.int .i64 f.R)).set 2 (.int .i64 f.S)).set 3 (.int .i64 f.P.K)).set 4 (.int .i64 f.P.V)).set 5 (.slice av f.E.length cv)), ?_, ?_⟩
  · exact (((((hB.setCell (p := ⟨rb, 0, none⟩) hrb (.int .i64 f.K)).setCell (p := ⟨rb, 1, none⟩) hrb (.int .i64 f.R)).setCell (p := ⟨rb, 2, none⟩) hrb (.int .i64 f.S)).setCell
      (p := ⟨rb, 3, none⟩) hrb (.int .i64 f.P.K)).setCell (p := ⟨rb, 4, none⟩) hrb (.int .i64 f.P.V)).setCell (p := ⟨rb, 5, none⟩) hrb (.slice av f.E.length cv)
  · exact (((((hr.far2 rb 0 _ hne).far2 rb 1 _ hne).far2 rb 2 _ hne).far2 rb 3 _ hne).far2 rb 4 _ hne).far2 rb 5 _ hne

/-- What holds in fresh's loop. -/
structure FreshAt (w : World) (R s : Int) (n g base k : Nat) (v : Value) (W : World) : Prop where
  kn : k ≤ n
  bel : Below w.heap.size w W
  zero : Blk W (w.heap.size + 1) 32 zeroBox
  item : Blk W (w.heap.size + 2) 29 #[.int .i64 1, .int .i64 0]
  box : Blk W g 32 (MakeV 3 R s 1 0 v)
  own : OwnT base W v (List.replicate k ⟨1, 0⟩)
  big : base ≤ W.heap.size

set_option maxHeartbeats 1600000 in
theorem lfresh_any (c : Cf) (ca : Option Addr) (cc : Nat) (r s : Int) (w : World) (hc : c.Ok) (r0 : 0 ≤ r) (r1 : r ≤ 1099511627776) :
    Calls Tryz.prog 133 #[.agg #[.int .i64 c.N, .int .i64 c.Pi, .int .i64 c.E, .int .i64 c.G, .int .i64 c.F, .slice ca c.P.length cc], .int .i64 r, .int .i64 s] w (FrRet (freshF c r s) w) := by
  have hB0 : Below w.heap.size w ((w.alloc (.cells #[.int .i64 c.N, .int .i64 c.Pi, .int .i64 c.E, .int .i64 c.G, .int .i64 c.F, .slice ca c.P.length cc] 24)).alloc (.cells zeroBox 32)) := (alloc_below w _).alloc (by simp) _
  have hC0 : Blk ((w.alloc (.cells #[.int .i64 c.N, .int .i64 c.Pi, .int .i64 c.E, .int .i64 c.G, .int .i64 c.F, .slice ca c.P.length cc] 24)).alloc (.cells zeroBox 32)) w.heap.size 24 (confBox c ca cc) := (Blk.new w _ _).alloc _
  have hZ0 : Blk ((w.alloc (.cells #[.int .i64 c.N, .int .i64 c.Pi, .int .i64 c.E, .int .i64 c.G, .int .i64 c.F, .slice ca c.P.length cc] 24)).alloc (.cells zeroBox 32)) (w.heap.size + 1) 32 zeroBox := Blk.newAt _ _ (by simp)
  have HW := Lib.hid (fun W => cwire_any c ca cc r W hc r0 r1)
  have HS := Lib.hid (fun W => cslots_any c ca cc W hc)
  have h6 := hc.n6
  have h12 := hc.n12
  have hsl : 6 ≤ slotsI c ∧ slotsI c ≤ 15 := by have := hc.len; unfold slotsI; omega
  have HF := Lib.hid (show freshF c r s = ⟨3, wireI c r, s, ⟨1, 0⟩, if s < c.N then List.replicate (slotsI c).toNat ⟨1, 0⟩ else []⟩ from rfl)
  generalize wireI c r = R at *
  obtain ⟨hs6, hs15⟩ := hsl
  go_enter Tryz.func133, Tryz.ntmps133
  go_upto_region 2 with fail
  have kB : Below w.heap.size w (((w.alloc (.cells #[.int .i64 c.N, .int .i64 c.Pi, .int .i64 c.E, .int .i64 c.G, .int .i64 c.F, .slice ca c.P.length cc] 24)).alloc (.cells zeroBox 32)).alloc (.cells #[.int .i64 1, .int .i64 0] 29)) := hB0.alloc hB0.size _
  have kC := hC0.alloc (.cells #[.int .i64 1, .int .i64 0] 29)
  have kZ := hZ0.alloc (.cells #[.int .i64 1, .int .i64 0] 29)
  have kI : Blk (((w.alloc (.cells #[.int .i64 c.N, .int .i64 c.Pi, .int .i64 c.E, .int .i64 c.G, .int .i64 c.F, .slice ca c.P.length cc] 24)).alloc (.cells zeroBox 32)).alloc (.cells #[.int .i64 1, .int .i64 0] 29)) (w.heap.size + 2) 29 #[.int .i64 1, .int .i64 0] := Blk.newAt _ _ (by simp)
  clear hB0 hC0 hZ0
  unfold zeroBox at kB kC kI
  conv at kZ => arg 1; unfold zeroBox
  have hsz2 : w.heap.size + 1 + 1 = w.heap.size + 2 := rfl
  rw [hsz2]
  generalize (((w.alloc (.cells #[.int .i64 c.N, .int .i64 c.Pi, .int .i64 c.E, .int .i64 c.G, .int .i64 c.F, .slice ca c.P.length cc] 24)).alloc (.cells #[.int .i64 0, .int .i64 0, .int .i64 0, .int .i64 0, .int .i64 0, .slice none 0 0] 32)).alloc (.cells #[.int .i64 1, .int .i64 0] 29)) = w1 at *
  refine region_slots [some 10, some 11, some 12, some 13, some 14, some 15, some 8, none] [none, none, none, none, none, none, none, some 6] 37 8 rfl (by kernel_rfl) (by kernel_rfl) rfl rfl ?_
  apply step_fix
  · intro a W Zs hS hFm hz hd
    have h3 := hFm.old 3 rfl
    conv at h3 => rhs; whnf
    replace h3 := ev_get hFm.size h3
    have hq := (kC.drew1.later hS).at
    unfold confBox at hq
    refine .inl ⟨wanted_none rfl _, fun K hK => ?_⟩
    have HK := Lib.hid hK
    clear hd hFm hK
    go_simp
    exact HK.out _ _ rfl (Below.refl _ _)
  simp only [List.nil_append, List.cons_append]
  apply step_fix
  · intro a W Zs hS hFm hz hd
    have h1 := hFm.old 1 rfl
    conv at h1 => rhs; whnf
    replace h1 := ev_get hFm.size h1
    refine .inl ⟨wanted_none rfl _, fun K hK => ?_⟩
    have HK := Lib.hid hK
    clear hd hFm hK
    go_simp
    exact HK.out _ _ rfl (Below.refl _ _)
  simp only [List.nil_append, List.cons_append]
  apply step_fix
  · intro a W Zs hS hFm hz hd
    have h10 := ev_get hFm.size (hd 0 10 rfl rfl)
    have h11 := ev_get hFm.size (hd 1 11 rfl rfl)
    refine .inl ⟨wanted_none rfl _, fun K hK => ?_⟩
    have HK := Lib.hid hK
    clear hd hFm hK
    go_simp
    refine (HW.out _).mono ?_
    rintro e W' ⟨rfl, hb⟩
    exact HK.out _ _ rfl hb
  simp only [List.nil_append, List.cons_append]
  apply step_fix
  · intro a W Zs hS hFm hz hd
    have h2 := hFm.old 2 rfl
    conv at h2 => rhs; whnf
    replace h2 := ev_get hFm.size h2
    refine .inl ⟨wanted_none rfl _, fun K hK => ?_⟩
    have HK := Lib.hid hK
    clear hd hFm hK
    go_simp
    exact HK.out _ _ rfl (Below.refl _ _)
  simp only [List.nil_append, List.cons_append]
  apply step_fix
  · intro a W Zs hS hFm hz hd
    have h7 := hFm.old 7 rfl
    conv at h7 => rhs; whnf
    replace h7 := ev_get hFm.size h7
    have hq := (kI.drew1.later hS).at
    refine .inl ⟨wanted_none rfl _, fun K hK => ?_⟩
    have HK := Lib.hid hK
    clear hd hFm hK
    go_simp
    exact HK.out _ _ rfl (Below.refl _ _)
  simp only [List.nil_append, List.cons_append]
  apply step_fix
  · intro a W Zs hS hFm hz hd
    have h12 := ev_get hFm.size (hd 2 12 rfl rfl)
    have h13 := ev_get hFm.size (hd 3 13 rfl rfl)
    have h14 := ev_get hFm.size (hd 4 14 rfl rfl)
    refine .inl ⟨wanted_none rfl _, fun K hK => ?_⟩
    have HK := Lib.hid hK
    clear hd hFm hK
    go_simp
    exact HK.out _ _ rfl (Below.refl _ _)
  simp only [List.nil_append, List.cons_append]
  refine step_of (boxF _ 32 6) (boxF_good _ _ _) ?_ ?_
  · intro a W Zs hS hFm hz hd
    refine .inl ⟨wanted_none rfl _, fun K hK => ?_⟩
    have HK := Lib.hid hK
    clear hd hFm hK
    go_simp
    exact HK.out _ _ ⟨_, _, rfl, rfl, Blk.new _ _ _, .inl ⟨Nat.le_refl _, by simp⟩⟩ (alloc_below _ _)
  simp only [List.nil_append, List.cons_append]
  apply step_lit
  · intro a W Zs hS hFm hz hd hap
    obtain ⟨b8, cs8, e8, n8, q8, z8⟩ := hd 6 8 rfl rfl
    have h8 := ev_get hFm.size e8
    have h15 := ev_get hFm.size (hd 5 15 rfl rfl)
    have hB0 := (hz 6 _ rfl z8).1
    obtain ⟨u0, u1, u2, u3, u4, u5, rfl⟩ := arr6 n8
    have hq := q8.at
    have hfz := q8.frozen
    refine ⟨wanted_none rfl _, b8, z8, fun K hK => ?_⟩
    have HK := Lib.hid hK
    clear hd hFm hK
    go_simp
    exact HK.out undef _ (Only.fill6 _ _ _ _ _ _ _ _) (fun d hd' => by injection hd' with hd'; subst hd'; exact ⟨⟨b8, e8, q8.fill6 _ _ _ _ _ _, .inr (.inl rfl)⟩, ⟨b8, _, e8, rfl, q8.fill6 _ _ _ _ _ _, z8⟩⟩)
  simp only [List.nil_append, List.cons_append]
  intro a w2 Zs hS hFm hz hd
  obtain ⟨b8, e8, q8, f8⟩ := hd 7 8 (by decide) rfl
  obtain ⟨bz, csz, ez, nz, qz, zz⟩ := hd 6 8 (by decide) rfl
  have nb8 := ptr_new ez e8 (hz 6 (by decide) bz zz)
  clear zz qz nz ez
  clear csz bz
  have e0 := hFm.old 0 rfl
  conv at e0 => rhs; whnf
  have e1 := hFm.old 1 rfl
  conv at e1 => rhs; whnf
  have e2 := hFm.old 2 rfl
  conv at e2 => rhs; whnf
  have e3 := hFm.old 3 rfl
  conv at e3 => rhs; whnf
  have e4 := hFm.old 4 rfl
  conv at e4 => rhs; whnf
  have e5 := hFm.old 5 rfl
  conv at e5 => rhs; whnf
  have e6 := hFm.old 6 rfl
  conv at e6 => rhs; whnf
  have e7 := hFm.old 7 rfl
  conv at e7 => rhs; whnf
  have e9 := hFm.old 9 rfl
  conv at e9 => rhs; whnf
  have e16 := hFm.old 16 rfl
  conv at e16 => rhs; whnf
  have e17 := hFm.old 17 rfl
  conv at e17 => rhs; whnf
  have e18 := hFm.old 18 rfl
  conv at e18 => rhs; whnf
  have e19 := hFm.old 19 rfl
  conv at e19 => rhs; whnf
  have e20 := hFm.old 20 rfl
  conv at e20 => rhs; whnf
  have e21 := hFm.old 21 rfl
  conv at e21 => rhs; whnf
  have e22 := hFm.old 22 rfl
  conv at e22 => rhs; whnf
  have e23 := hFm.old 23 rfl
  conv at e23 => rhs; whnf
  have e24 := hFm.old 24 rfl
  conv at e24 => rhs; whnf
  have e25 := hFm.old 25 rfl
  conv at e25 => rhs; whnf
  have e26 := hFm.old 26 rfl
  conv at e26 => rhs; whnf
  have e27 := hFm.old 27 rfl
  conv at e27 => rhs; whnf
  have e28 := hFm.old 28 rfl
  conv at e28 => rhs; whnf
  have e29 := hFm.old 29 rfl
  conv at e29 => rhs; whnf
  have e30 := hFm.old 30 rfl
  conv at e30 => rhs; whnf
  have e31 := hFm.old 31 rfl
  conv at e31 => rhs; whnf
  have e32 := hFm.old 32 rfl
  conv at e32 => rhs; whnf
  have e33 := hFm.old 33 rfl
  conv at e33 => rhs; whnf
  have e34 := hFm.old 34 rfl
  conv at e34 => rhs; whnf
  have e35 := hFm.old 35 rfl
  conv at e35 => rhs; whnf
  have e36 := hFm.old 36 rfl
  conv at e36 => rhs; whnf
  have hsz := hFm.size
  have hdf := hFm.defers
  clear hd hFm
  obtain ⟨t, df⟩ := a
  simp only at hsz hdf
  subst hdf
  obtain ⟨x, hx⟩ : ∃ x : Nat → Value, ∀ i, t.getD i undef = x i := ⟨fun i => t.getD i undef, fun _ => rfl⟩
  have h8 := (hx 8).symm.trans e8
  have h0 := (hx 0).symm.trans e0
  have h1 := (hx 1).symm.trans e1
  have h2 := (hx 2).symm.trans e2
  have h3 := (hx 3).symm.trans e3
  have h4 := (hx 4).symm.trans e4
  have h5 := (hx 5).symm.trans e5
  have h6 := (hx 6).symm.trans e6
  have h7 := (hx 7).symm.trans e7
  have h9 := (hx 9).symm.trans e9
  have h16 := (hx 16).symm.trans e16
  have h17 := (hx 17).symm.trans e17
  have h18 := (hx 18).symm.trans e18
  have h19 := (hx 19).symm.trans e19
  have h20 := (hx 20).symm.trans e20
  have h21 := (hx 21).symm.trans e21
  have h22 := (hx 22).symm.trans e22
  have h23 := (hx 23).symm.trans e23
  have h24 := (hx 24).symm.trans e24
  have h25 := (hx 25).symm.trans e25
  have h26 := (hx 26).symm.trans e26
  have h27 := (hx 27).symm.trans e27
  have h28 := (hx 28).symm.trans e28
  have h29 := (hx 29).symm.trans e29
  have h30 := (hx 30).symm.trans e30
  have h31 := (hx 31).symm.trans e31
  have h32 := (hx 32).symm.trans e32
  have h33 := (hx 33).symm.trans e33
  have h34 := (hx 34).symm.trans e34
  have h35 := (hx 35).symm.trans e35
  have h36 := (hx 36).symm.trans e36
  have ht' : t = #[x 0, x 1, x 2, x 3, x 4, x 5, x 6, x 7, x 8, x 9, x 10, x 11, x 12, x 13, x 14, x 15, x 16, x 17, x 18, x 19, x 20, x 21, x 22, x 23, x 24, x 25, x 26, x 27, x 28, x 29, x 30, x 31, x 32, x 33, x 34, x 35, x 36] := frame_lit t 37 hsz x hx
  clear hx hsz hz e8 e0 e1 e2 e3 e4 e5 e6 e7 e9 e16 e17 e18 e19 e20 e21 e22 e23 e24 e25 e26 e27 e28 e29 e30 e31 e32 e33 e34 e35 e36
  subst ht'
  (try dsimp only)
  rw [h8, h0, h1, h2, h3, h4, h5, h6, h7, h9, h16, h17, h18, h19, h20, h21, h22, h23, h24, h25, h26, h27, h28, h29, h30, h31, h32, h33, h34, h35, h36]
  clear h8 h0 h1 h2 h3 h4 h5 h6 h7 h9 h16 h17 h18 h19 h20 h21 h22 h23 h24 h25 h26 h27 h28 h29 h30 h31 h32 h33 h34 h35 h36
  have hb2 := from_drew hS
  have hB := kB.trans (hb2.mono kB.size)
  have hC := kC.later hb2
  have hZ := kZ.later hb2
  have hI := kI.later hb2
  have hg1 : w1.heap.size ≤ b8 := nb8.1
  have hI1 := kI.lt
  clear hS hb2 kB kC kZ kI f8 nb8 HW
  have hQc := hC.at
  unfold confBox at hQc
  have hQg := q8.at
  have hQz := hZ.at
  unfold zeroBox at hQz
  have hFz := hZ.frozen
  by_cases hs : s < c.N
  · have d1 : decide (s < c.N) = true := by simpa using hs
    rw [if_pos hs] at HF
    go_wp2_with fail
    refine (HS.out _).mono ?_
    rintro e w3 ⟨rfl, hb⟩
    have hB3 := hB.trans (hb.mono hB.size)
    have hg3 : Blk w3 b8 32 (MakeV 3 R s 1 0 (.slice none 0 0)) := q8.later hb
    have hZ3 := hZ.later hb
    have hI3 := hI.later hb
    have hglt := hg3.lt
    clear hb hQc hQg hQz hFz q8 hZ hI hC hB
    go_wp2
    go_loopw [27] (fun i w' => ∃ (k : Nat) (v : Value), i = .int .i64 k ∧ FreshAt w R s (slotsI c).toNat b8 w3.heap.size k v w') (fun i _ => 15 - (intOf i).toNat)
    case atStart => exact ⟨0, _, rfl, ⟨Nat.zero_le _, hB3, hZ3, hI3, hg3, OwnT.nil _ _, Nat.le_refl _⟩⟩
    case round =>
      clear hg3 hZ3 hI3 hB3
      obtain ⟨k, v, rfl, hk, hB, hZ, hI, hg, hown, hbig⟩ := hrel
      have hll : (List.replicate k (⟨1, 0⟩ : It)).length ≤ 15 := by simp; omega
      have hin : ∀ t ∈ List.replicate k (⟨1, 0⟩ : It), inI t.K ∧ inI t.V := fun t ht => by rw [List.eq_of_mem_replicate ht]; exact ⟨⟨by show (-9223372036854775808 : Int) ≤ 1; omega, by show (1 : Int) ≤ 9223372036854775807; omega⟩, ⟨by show (-9223372036854775808 : Int) ≤ 0; omega, by show (0 : Int) ≤ 9223372036854775807; omega⟩⟩
      have HR := Lib.hid (show List.replicate (k + 1) (⟨1, 0⟩ : It) = List.replicate k ⟨1, 0⟩ ++ [⟨1, 0⟩] from List.replicate_succ')
      have hol := hown.lt
      have g0 := hg.at
      unfold MakeV at g0
      have gf := hg.frozen
      have i0 := hI.at
      by_cases hlt : (k : Int) < slotsI c
      · have d2 : decide ((k : Int) < slotsI c) = true := by simpa using hlt
        generalize List.replicate k (⟨1, 0⟩ : It) = TS at *
        obtain ⟨av, cv, rfl⟩ := hown.form
        go_wp2_with (first
          | (at_builtin; have hx1 := hown; refine wpList_appT _ rfl _ _ rfl w3.heap.size (.slice av TS.length cv) TS rfl (hown.later (alloc_below _ _)) wr.heap.size 1 ⟨1, 0⟩ rfl (heap_alloc_new _ _) (by omega) (by simp; omega) ?_; intro g5 cap5 w5 ho2 hg2 h3 h4; replace hZ := (hZ.alloc _).grown hg2 (fun e => by have := (hol _ e.symm).1; omega); replace hI := (hI.alloc _).grown hg2 (fun e => by have := (hol _ e.symm).1; omega); replace hg := (hg.alloc _).grown hg2 (fun e => by have := (hol _ e.symm).1; omega); replace hB := below_grown (hB.alloc hB.size _) (hB.alloc hB.size _).size hg2 (fun x hx => by have := (hol _ hx).1; omega); clear hx1 g0 gf i0; have g0 := hg.at; unfold MakeV at g0; have gf := hg.frozen; have hs5 := hg2.size; clear hown))
        go_roundw
        case rel =>
          refine ⟨k + 1, _, by go_num, ⟨by omega, hB.setCell (p := ⟨b8, 5, none⟩) (by show w.heap.size ≤ b8; omega) _, hZ.far (p := ⟨b8, 5, none⟩) (by show w.heap.size + 1 ≠ b8; omega) _, hI.far (p := ⟨b8, 5, none⟩) (by show w.heap.size + 2 ≠ b8; omega) _, hg.set 5 _, ?_, by simp [World.setCell] at hs5 ⊢; omega⟩⟩
          rw [HR.out]
          exact ho2.far ⟨b8, 5, none⟩ _ hglt
        case measure => simp [intOf]; omega
      · have d2 : decide ((k : Int) < slotsI c) = false := by simpa using hlt
        have hkk : (slotsI c).toNat = k := by omega
        rw [hkk] at HF
        clear hkk HR
        generalize List.replicate k (⟨1, 0⟩ : It) = TS at *
        obtain ⟨av, cv, rfl⟩ := hown.form
        have z0 := hZ.at
        unfold zeroBox at z0
        have zf := hZ.frozen
        go_wp2
        obtain ⟨kk, hb2, hr2⟩ := fr_end ⟨3, R, s, ⟨1, 0⟩, TS⟩ w wr (w.heap.size + 1) av cv hB (by omega) hZ (hown.row (by show TS.length ≤ _; omega) hin) (.inr fun x hx => by have := (hol x.block (by rw [hx]; rfl)).1; omega)
        have q := kk.at
        unfold frBox at q
        simp at q
        refine bodyPost_ret (v := .agg #[.int .i64 (⟨3, R, s, ⟨1, 0⟩, TS⟩ : Fr).K, .int .i64 (⟨3, R, s, ⟨1, 0⟩, TS⟩ : Fr).R, .int .i64 (⟨3, R, s, ⟨1, 0⟩, TS⟩ : Fr).S, .int .i64 (⟨3, R, s, ⟨1, 0⟩, TS⟩ : Fr).P.K, .int .i64 (⟨3, R, s, ⟨1, 0⟩, TS⟩ : Fr).P.V, .slice av (⟨3, R, s, ⟨1, 0⟩, TS⟩ : Fr).E.length cv]) (by simp [results, Tryz.results133, go_sem, q]) rfl ?_
        rw [HF.out]
        exact ⟨av, cv, rfl, hr2, fun x hx => by have := (hol x.block (by rw [hx]; rfl)).1; omega, hb2⟩
  · have d1 : decide (s < c.N) = false := by simpa using hs
    rw [if_neg hs] at HF
    go_wp2
    obtain ⟨kk, hb2, hr2⟩ := fr_end ⟨3, R, s, ⟨1, 0⟩, []⟩ w w2 (w.heap.size + 1) none 0 hB (by omega) hZ (RowT.empty _ _) (.inl rfl)
    have q := kk.at
    unfold frBox at q
    simp at q
    refine bodyPost_ret (v := .agg #[.int .i64 (⟨3, R, s, ⟨1, 0⟩, []⟩ : Fr).K, .int .i64 (⟨3, R, s, ⟨1, 0⟩, []⟩ : Fr).R, .int .i64 (⟨3, R, s, ⟨1, 0⟩, []⟩ : Fr).S, .int .i64 (⟨3, R, s, ⟨1, 0⟩, []⟩ : Fr).P.K, .int .i64 (⟨3, R, s, ⟨1, 0⟩, []⟩ : Fr).P.V, .slice none (⟨3, R, s, ⟨1, 0⟩, []⟩ : Fr).E.length 0]) (by simp [results, Tryz.results133, go_sem, q]) rfl ?_
    rw [HF.out]
    refine ⟨none, 0, rfl, hr2, ?_, hb2⟩
    intro y hy
    cases hy

end Go.Proofs.YthhmedlefahccaaGreatDoor

/-
  Contracts of package lane, second part: a step, for every relay and all bytes; what goes out of two texts.
-/
import Derived.Test.YtaekdfjecokpmaaDev28
namespace Go.Proofs.Ytaekdfjecokpmaa
open Go.RowKit Plait
set_option maxRecDepth 100000
set_option linter.unusedVariables false

/-- A call that makes memory, and then a store into one block: all other blocks stay. -/
theorem grown_set {w w1 : World} (hb : Below w.heap.size w w1) (g i : Nat) (u : Value) : w.grownBy (w1.setCell ⟨g, i, none⟩ u) (some g) :=
  ⟨hb.os, hb.tape, hb.output, by simpa [World.setCell] using hb.size, fun k hk hne => (Below.heap_setCell w1 ⟨g, i, none⟩ u k (fun e => hne (by rw [e]))).trans (hb.block k hk)⟩

/-- What a step answers and leaves. -/
def StepRet (g : Nat) (t : TypeId) (cmp over : Bool) (d s : UInt8) (w : World) (e : Ending) (w' : World) : Prop :=
  e = .returned (.int .u8 (stepC cmp over d s).toNat) ∧ Blk w' g t #[.bool cmp, .bool (stepO cmp over d s)] ∧ w.grownBy w' (some g)

theorem ruleTrue (cmp : Bool) (d s : UInt8) (w : World) :
    Calls Try.prog (ruleF cmp) #[.agg #[.int .i32 d.toNat, .int .i32 s.toNat]] w fun e w' => e = .returned (.bool (symB d && (!cmp || d == s))) ∧ Below w.heap.size w w' := by
  cases cmp
  · have := lisSent_any d s w
    simpa [ruleF] using this
  · have := lisAgreed_any d s w
    simpa [ruleF] using this

theorem lrule_f (g : Nat) (over : Bool) (w : World) (hK : Blk w g 45 #[.bool false, .bool over]) :
    Calls Try.prog 24 #[.pointer (some ⟨g, 0, none⟩)] w fun e w' => e = .returned (.func (.func 29) #[] #[]) ∧ w = w' := lrule_any g false over w hK
theorem lrule_t (g : Nat) (over : Bool) (w : World) (hK : Blk w g 45 #[.bool true, .bool over]) :
    Calls Try.prog 24 #[.pointer (some ⟨g, 0, none⟩)] w fun e w' => e = .returned (.func (.func 28) #[] #[]) ∧ w = w' := lrule_any g true over w hK
theorem ruled_f (d s : UInt8) (w : World) :
    Calls Try.prog 29 #[.agg #[.int .i32 d.toNat, .int .i32 s.toNat]] w fun e w' => e = .returned (.bool (symB d && (!false || d == s))) ∧ Below w.heap.size w w' := ruleTrue false d s w
theorem ruled_t (d s : UInt8) (w : World) :
    Calls Try.prog 28 #[.agg #[.int .i32 d.toNat, .int .i32 s.toNat]] w fun e w' => e = .returned (.bool (symB d && (!true || d == s))) ∧ Below w.heap.size w w' := ruleTrue true d s w

theorem passB_eq (cmp : Bool) (d s : UInt8) : passB cmp false d s = (symB d && (!cmp || d == s)) := by simp only [passB, Bool.not_false, Bool.true_and]
theorem stepC_no {cmp : Bool} {d s : UInt8} (h : (symB d && (!cmp || d == s)) = false) : stepC cmp false d s = 46 := by
  have hp : passB cmp false d s = false := (passB_eq cmp d s).trans h
  unfold stepC
  rw [hp]; rfl
theorem stepO_no {cmp : Bool} {d s : UInt8} (h : (symB d && (!cmp || d == s)) = false) : stepO cmp false d s = true := by
  have hp : passB cmp false d s = false := (passB_eq cmp d s).trans h
  unfold stepO
  rw [hp]; rfl
theorem stepC_yes {cmp : Bool} {d s : UInt8} (h : (symB d && (!cmp || d == s)) = true) : stepC cmp false d s = d := by
  have hp : passB cmp false d s = true := (passB_eq cmp d s).trans h
  unfold stepC
  rw [hp]; rfl
theorem stepO_yes {cmp : Bool} {d s : UInt8} (h : (symB d && (!cmp || d == s)) = true) : stepO cmp false d s = (d == 35) := by
  have hp : passB cmp false d s = true := (passB_eq cmp d s).trans h
  unfold stepO
  rw [hp]; rfl

theorem byte32 (c : UInt8) : wrap32 (c.toNat : Int) = c.toNat := by
  have := c.toNat_lt
  unfold wrap32
  omega



set_option maxHeartbeats 800000 in
theorem lStep_any (g : Nat) (cmp over : Bool) (d s : UInt8) (w : World) (hK : Blk w g 45 #[.bool cmp, .bool over]) :
    Calls Try.prog 15 #[.pointer (some ⟨g, 0, none⟩), .int .u8 d.toNat, .int .u8 s.toNat] w (StepRet g 45 cmp over d s w) := by
  have hB : Below w.heap.size w (w.alloc (.cells #[.int .i32 d.toNat, .int .i32 s.toNat] 49)) := alloc_below w _
  have hK2 := hK.alloc (.cells #[.int .i32 d.toNat, .int .i32 s.toNat] 49)
  have hP : Blk (w.alloc (.cells #[.int .i32 d.toNat, .int .i32 s.toNat] 49)) w.heap.size 49 #[.int .i32 d.toNat, .int .i32 s.toNat] := Blk.new w _ _
  have v1 := byte32 d
  have v2 := byte32 s
  cases cmp
  case false =>
    cases over
    · cases hp0 : (symB d && (!false || d == s))
      · have e1 : stepC false false d s = 46 := stepC_no hp0
        have e2 : stepO false false d s = true := stepO_no hp0
        have HR := Lib.hid (ruled_f d s)
        rw [hp0] at HR
        clear hp0
        go_enter Try.func15, Try.ntmps15
        go_upto_region 2 with fail
        generalize w.alloc (.cells #[.int .i32 d.toNat, .int .i32 s.toNat] 49) = w0 at *
        go_wp2_with fail
        refine (lrule_f g false w0 hK2).mono ?_
        rintro e wl ⟨rfl, rfl⟩
        have hq := hK2.at
        have hf := hK2.frozen
        have hp := hP.at
        go_wp2_with fail
        refine (HR.out _).mono ?_
        rintro e w1 ⟨rfl, hb⟩
        replace hB := hB.trans (hb.mono hB.size)
        clear hq hf hp
        have hK3 := hK2.later hb
        have hq := hK3.at
        have hf := hK3.frozen
        go_wp2
        go_ret
        refine ⟨by rw [e1]; rfl, ?_, grown_set hB g 1 _⟩
        rw [e2]
        exact hK3.set 1 _
      · have e1 : stepC false false d s = d := stepC_yes hp0
        have e2 : stepO false false d s = (d == 35) := stepO_yes hp0
        have HR := Lib.hid (ruled_f d s)
        rw [hp0] at HR
        clear hp0
        go_enter Try.func15, Try.ntmps15
        go_upto_region 2 with fail
        generalize w.alloc (.cells #[.int .i32 d.toNat, .int .i32 s.toNat] 49) = w0 at *
        go_wp2_with fail
        refine (lrule_f g false w0 hK2).mono ?_
        rintro e wl ⟨rfl, rfl⟩
        have hq := hK2.at
        have hf := hK2.frozen
        have hp := hP.at
        go_wp2_with fail
        refine (HR.out _).mono ?_
        rintro e w1 ⟨rfl, hb⟩
        replace hB := hB.trans (hb.mono hB.size)
        clear hq hf hp
        have hP3 := hP.later hb
        have hK3 := hK2.later hb
        have hp := hP3.at
        clear hb
        go_wp2_with fail
        refine (lisTail_any d _).mono ?_
        rintro e w2 ⟨rfl, hb⟩
        replace hB := hB.trans (hb.mono hB.size)
        have hK4 := hK3.later hb
        have hq := hK4.at
        have hf := hK4.frozen
        go_wp2
        go_ret
        refine ⟨by rw [e1]; rfl, ?_, grown_set hB g 1 _⟩
        rw [e2]
        exact hK4.set 1 _
    · have e1 : stepC false true d s = 46 := by simp [stepC, passB]
      have e2 : stepO false true d s = true := by simp [stepO, passB]
      go_enter Try.func15, Try.ntmps15
      go_upto_region 2 with fail
      generalize w.alloc (.cells #[.int .i32 d.toNat, .int .i32 s.toNat] 49) = w0 at *
      go_wp2_with fail
      refine (lrule_f g true w0 hK2).mono ?_
      rintro e wl ⟨rfl, rfl⟩
      have hq := hK2.at
      have hf := hK2.frozen
      have hp := hP.at
      go_wp2
      go_ret
      refine ⟨by rw [e1]; rfl, ?_, grown_set hB g 1 _⟩
      rw [e2]
      exact hK2.set 1 _
  case true =>
    cases over
    · cases hp0 : (symB d && (!true || d == s))
      · have e1 : stepC true false d s = 46 := stepC_no hp0
        have e2 : stepO true false d s = true := stepO_no hp0
        have HR := Lib.hid (ruled_t d s)
        rw [hp0] at HR
        clear hp0
        go_enter Try.func15, Try.ntmps15
        go_upto_region 2 with fail
        generalize w.alloc (.cells #[.int .i32 d.toNat, .int .i32 s.toNat] 49) = w0 at *
        go_wp2_with fail
        refine (lrule_t g false w0 hK2).mono ?_
        rintro e wl ⟨rfl, rfl⟩
        have hq := hK2.at
        have hf := hK2.frozen
        have hp := hP.at
        go_wp2_with fail
        refine (HR.out _).mono ?_
        rintro e w1 ⟨rfl, hb⟩
        replace hB := hB.trans (hb.mono hB.size)
        clear hq hf hp
        have hK3 := hK2.later hb
        have hq := hK3.at
        have hf := hK3.frozen
        go_wp2
        go_ret
        refine ⟨by rw [e1]; rfl, ?_, grown_set hB g 1 _⟩
        rw [e2]
        exact hK3.set 1 _
      · have e1 : stepC true false d s = d := stepC_yes hp0
        have e2 : stepO true false d s = (d == 35) := stepO_yes hp0
        have HR := Lib.hid (ruled_t d s)
        rw [hp0] at HR
        clear hp0
        go_enter Try.func15, Try.ntmps15
        go_upto_region 2 with fail
        generalize w.alloc (.cells #[.int .i32 d.toNat, .int .i32 s.toNat] 49) = w0 at *
        go_wp2_with fail
        refine (lrule_t g false w0 hK2).mono ?_
        rintro e wl ⟨rfl, rfl⟩
        have hq := hK2.at
        have hf := hK2.frozen
        have hp := hP.at
        go_wp2_with fail
        refine (HR.out _).mono ?_
        rintro e w1 ⟨rfl, hb⟩
        replace hB := hB.trans (hb.mono hB.size)
        clear hq hf hp
        have hP3 := hP.later hb
        have hK3 := hK2.later hb
        have hp := hP3.at
        clear hb
        go_wp2_with fail
        refine (lisTail_any d _).mono ?_
        rintro e w2 ⟨rfl, hb⟩
        replace hB := hB.trans (hb.mono hB.size)
        have hK4 := hK3.later hb
        have hq := hK4.at
        have hf := hK4.frozen
        go_wp2
        go_ret
        refine ⟨by rw [e1]; rfl, ?_, grown_set hB g 1 _⟩
        rw [e2]
        exact hK4.set 1 _
    · have e1 : stepC true true d s = 46 := by simp [stepC, passB]
      have e2 : stepO true true d s = true := by simp [stepO, passB]
      go_enter Try.func15, Try.ntmps15
      go_upto_region 2 with fail
      generalize w.alloc (.cells #[.int .i32 d.toNat, .int .i32 s.toNat] 49) = w0 at *
      go_wp2_with fail
      refine (lrule_t g true w0 hK2).mono ?_
      rintro e wl ⟨rfl, rfl⟩
      have hq := hK2.at
      have hf := hK2.frozen
      have hp := hP.at
      go_wp2
      go_ret
      refine ⟨by rw [e1]; rfl, ?_, grown_set hB g 1 _⟩
      rw [e2]
      exact hK2.set 1 _

end Go.Proofs.Ytaekdfjecokpmaa

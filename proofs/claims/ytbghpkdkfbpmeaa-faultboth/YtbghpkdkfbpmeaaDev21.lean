/-
  Contracts of package fault, second part: whether a locus may be, whom it hits, who is right, how its clock seems.
-/
import Derived.Test.YtbghpkdkfbpmeaaDev20
namespace Go.Proofs.Ytbghpkdkfbpmeaa
open Go.RowKit Plait
set_option maxRecDepth 100000
set_option linter.unusedVariables false

theorem lisAt_any (f : Fa) (a : Option Addr) (ac : Nat) (d : Option Addr) (dc : Nat) (i : Int) (w : World) :
    Calls Try.prog 32 #[.agg #[.int .i64 f.K, .int .i64 f.At, .int .i64 f.F, .int .i64 f.To, .slice a f.A.length ac, .slice d f.D.length dc], .int .i64 i] w fun e w' => e = .returned (.bool (atB f i)) ∧ Below w.heap.size w w' := by
  have hB0 : Below w.heap.size w (w.alloc (.cells #[.int .i64 f.K, .int .i64 f.At, .int .i64 f.F, .int .i64 f.To, .slice a f.A.length ac, .slice d f.D.length dc] 27)) := alloc_below w _
  have HL := Lib.hid (fun W => llocusOf_any f a ac d dc W)
  have hn0 : ∀ (v : Value) (w : World), (Instr.typeAssert (.iface 70 v) 55 75 true).run Try.prog w = .ok (.tuple #[.nilIface, .bool false]) w := fun v w => run_typeAssert_lacksB Try.underlying75 (by kernel_rfl) (by kernel_rfl) v _ w
  have hn2 : ∀ (v : Value) (w : World), (Instr.typeAssert (.iface 72 v) 55 75 true).run Try.prog w = .ok (.tuple #[.nilIface, .bool false]) w := fun v w => run_typeAssert_lacksB Try.underlying75 (by kernel_rfl) (by kernel_rfl) v _ w
  have hn1 : ∀ (v : Value) (w : World), (Instr.typeAssert (.iface 71 v) 55 75 true).run Try.prog w = .ok (.tuple #[.iface 71 v, .bool true]) w := fun v w => run_typeAssert_hasB Try.underlying75 (by kernel_rfl) v _ w
  by_cases k1 : f.K = 1
  · have HV := Lib.hid (show locV f = .iface 71 (.int .i64 f.At) by unfold locV; rw [if_neg (by omega), if_pos k1])
    have HF := Lib.hid (show atB f i = (f.At == i) by unfold atB; simp [k1])
    rw [HV.out] at HL
    clear k1
    go_enter Try.func32, Try.ntmps32
    go_wp2_with fail
    refine (HL.out _).mono ?_
    rintro e wn ⟨rfl, hb⟩
    replace hB0 := hB0.trans (hb.mono hB0.size)
    go_wp2_with fail
    refine (latNode_isOf f.At i _).mono ?_
    rintro e wn ⟨rfl, rfl⟩
    go_wp2
    go_ret
    exact ⟨ret_bool HF.out.symm, hB0⟩
  · have HF := Lib.hid (show atB f i = false by unfold atB; simp [k1])
    obtain ⟨t, v, HV, ht⟩ : ∃ t v, locV f = .iface t v ∧ (t = 70 ∨ t = 72) := by
      unfold locV
      split
      · exact ⟨_, _, rfl, .inl rfl⟩
      · split
        · exact ⟨_, _, rfl, .inr rfl⟩
        · exact ⟨_, _, rfl, .inl rfl⟩
    rw [HV] at HL
    rcases ht with rfl | rfl
    all_goals
      clear k1 HV
      go_enter Try.func32, Try.ntmps32
      go_wp2_with fail
      refine (HL.out _).mono ?_
      rintro e wn ⟨rfl, hb⟩
      replace hB0 := hB0.trans (hb.mono hB0.size)
      go_wp2
      go_ret
      exact ⟨ret_bool HF.out.symm, hB0⟩

end Go.Proofs.Ytbghpkdkfbpmeaa

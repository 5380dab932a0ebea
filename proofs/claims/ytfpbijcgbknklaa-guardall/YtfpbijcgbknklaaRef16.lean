/-
  Contracts of the reference's guardians.
-/
import Derived.Test.YtfpbijcgbknklaaRef7
import Derived.Test.YtfpbijcgbknklaaSp1
namespace Go.Proofs.Ytfpbijcgbknklaa
open Go.RowKit Plait
set_option maxRecDepth 100000
set_option linter.unusedVariables false

set_option maxHeartbeats 800000 in
theorem rAdmits8_any (c : Cf) (ca : Option Addr) (cc : Nat) (st dev : Int) (w : World) (hc : c.Ok) :
    Calls Try.prog 12 #[.agg #[.int .i64 c.N, .int .i64 c.Pi, .int .i64 c.E, .int .i64 c.G, .int .i64 c.F, .slice ca c.P.length cc], .int .i64 st, .int .i64 dev] w fun e w' => e = .returned (.bool (admitB c st dev)) ∧ Below w.heap.size w w' := by
  have h1 := hc.p0; have h2 := hc.p1; have h3 := hc.e0; have h4 := hc.g0
  have hB := alloc_below w (.cells #[.int .i64 c.N, .int .i64 c.Pi, .int .i64 c.E, .int .i64 c.G, .int .i64 c.F, .slice ca c.P.length cc] 24)
  have HX := Lib.hid (show admitB c st dev = (st != 4 || (decide (-windowI c ≤ dev) && decide (dev ≤ windowI c))) from rfl)
  have hwn : windowI c = 2 * c.Pi := rfl
  have z1 : 0 ≤ windowI c := by omega
  have z2 : windowI c ≤ 20000 := by omega
  have HW := Lib.hid (fun W => rwindow_any c ca cc W hc)
  generalize windowI c = wd at *
  clear hwn
  by_cases hs : st = 4
  · subst hs
    by_cases g1 : -wd ≤ dev
    · have d1 : decide (-wd ≤ dev) = true := by simpa using g1
      have d1' : decide (0 - wd ≤ dev) = true := by simp; omega
      go_enter Try.func12, Try.ntmps12
      go_wp2_with fail
      refine (HW.out _).mono ?_
      rintro e wn ⟨rfl, hb⟩
      go_wp2
      go_ret
      exact ⟨ret_bool (by rw [HX.out, d1]; simp), hB.trans (hb.mono hB.size)⟩
    · have d1 : decide (-wd ≤ dev) = false := by simpa using g1
      have d1' : decide (0 - wd ≤ dev) = false := by simp; omega
      go_enter Try.func12, Try.ntmps12
      go_wp2_with fail
      refine (HW.out _).mono ?_
      rintro e wn ⟨rfl, hb⟩
      go_wp2
      go_ret
      exact ⟨ret_bool (by rw [HX.out, d1]; simp), hB.trans (hb.mono hB.size)⟩
  · have d0 : (st != 4) = true := by simpa using hs
    have d0' : (st == 4) = false := by simpa using hs
    go_enter Try.func12, Try.ntmps12
    go_wp2_with fail
    refine (HW.out _).mono ?_
    rintro e wn ⟨rfl, hb⟩
    go_wp2
    go_ret
    exact ⟨ret_bool (by rw [HX.out, d0]; rfl), hB.trans (hb.mono hB.size)⟩

theorem rStream8_any (c : Cf) (ca : Option Addr) (cc : Nat) (st dev : Int) (s : List UInt8) (w : World) (hc : c.Ok) :
    Calls Try.prog 14 #[.agg #[.int .i64 c.N, .int .i64 c.Pi, .int .i64 c.E, .int .i64 c.G, .int .i64 c.F, .slice ca c.P.length cc], .int .i64 st, .int .i64 dev, .string ⟨s.toArray⟩] w fun e w' => e = .returned (.string ⟨(guardL c st dev s).toArray⟩) ∧ Below w.heap.size w w' := by
  have hB := alloc_below w (.cells #[.int .i64 c.N, .int .i64 c.Pi, .int .i64 c.E, .int .i64 c.G, .int .i64 c.F, .slice ca c.P.length cc] 24)
  have HA := Lib.hid (fun W => rAdmits8_any c ca cc st dev W hc)
  cases hg : admitB c st dev
  · rw [guard_no _ _ _ _ hg]
    rw [hg] at HA
    clear hg
    go_enter Try.func14, Try.ntmps14
    go_wp2_with fail
    refine (HA.out _).mono ?_
    rintro e wn ⟨rfl, hb⟩
    go_wp2
    go_ret
    exact ⟨rfl, hB.trans (hb.mono hB.size)⟩
  · rw [guard_yes _ _ _ _ hg]
    rw [hg] at HA
    clear hg
    go_enter Try.func14, Try.ntmps14
    go_wp2_with fail
    refine (HA.out _).mono ?_
    rintro e wn ⟨rfl, hb⟩
    go_wp2
    go_ret
    exact ⟨rfl, hB.trans (hb.mono hB.size)⟩

end Go.Proofs.Ytfpbijcgbknklaa

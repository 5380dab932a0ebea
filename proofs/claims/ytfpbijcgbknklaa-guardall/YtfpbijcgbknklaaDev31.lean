/-
  Contracts of package guard: the window, the rule, whether a stream comes in, and the stream.
-/
import Derived.Test.YtfpbijcgbknklaaSp1
import Derived.Test.YtfpbijcgbknklaaDev3
import Derived.Test.YtfpbijcgbknklaaSym2
namespace Go.Proofs.Ytfpbijcgbknklaa
open Go.RowKit Plait
set_option maxRecDepth 100000
set_option linter.unusedVariables false

theorem gdholds_any (wd dev : Int) (w : World) (h0 : 0 ≤ wd) (h1 : wd ≤ 20000) :
    Calls Try.prog 22 #[.int .i64 wd, .int .i64 dev] w fun e w' => e = .returned (.bool (decide (-wd ≤ dev) && decide (dev ≤ wd))) ∧ w = w' := by
  by_cases g1 : -wd ≤ dev
  · have d1 : decide (-wd ≤ dev) = true := by simpa using g1
    go_enter Try.func22, Try.ntmps22
    go_wp2
    go_ret
    exact ⟨ret_bool (by first | rfl | (rw [d1]; rfl) | (rw [d1]; simp)), rfl⟩
  · have d1 : decide (-wd ≤ dev) = false := by simpa using g1
    go_enter Try.func22, Try.ntmps22
    go_wp2
    go_ret
    exact ⟨ret_bool (by first | rfl | (rw [d1]; rfl) | (rw [d1]; simp)), rfl⟩

theorem gdany_any (dev : Int) (w : World) :
    Calls Try.prog 23 #[.int .i64 dev] w fun e w' => e = .returned (.bool true) ∧ w = w' := by
  go_enter Try.func23, Try.ntmps23
  go_wp2
  go_ret
  exact ⟨rfl, rfl⟩

set_option maxHeartbeats 800000 in
theorem gdrule_t (c : Cf) (ca : Option Addr) (cc : Nat) (w : World) (hc : c.Ok) :
    Calls Try.prog 18 #[.agg #[.int .i64 c.N, .int .i64 c.Pi, .int .i64 c.E, .int .i64 c.G, .int .i64 c.F, .slice ca c.P.length cc], .int .i64 4] w fun e w' => e = .returned (.func (.func 22) #[.int .i64 (windowI c)] #[]) ∧ Below w.heap.size w w' := by
  have hB := alloc_below w (.cells #[.int .i64 c.N, .int .i64 c.Pi, .int .i64 c.E, .int .i64 c.G, .int .i64 c.F, .slice ca c.P.length cc] 24)
  have HW := Lib.hid (fun W => cwindow_any c ca cc W hc)
  generalize windowI c = wd at *
  go_enter Try.func18, Try.ntmps18
  go_wp2_with fail
  refine (HW.out _).mono ?_
  rintro e wn ⟨rfl, hb⟩
  go_wp2
  go_ret
  exact ⟨rfl, hB.trans (hb.mono hB.size)⟩

theorem gdrule_f (c : Cf) (ca : Option Addr) (cc : Nat) (st : Int) (w : World) (hs : st ≠ 4) :
    Calls Try.prog 18 #[.agg #[.int .i64 c.N, .int .i64 c.Pi, .int .i64 c.E, .int .i64 c.G, .int .i64 c.F, .slice ca c.P.length cc], .int .i64 st] w fun e w' => e = .returned (.func (.func 23) #[] #[]) ∧ Below w.heap.size w w' := by
  have hB := alloc_below w (.cells #[.int .i64 c.N, .int .i64 c.Pi, .int .i64 c.E, .int .i64 c.G, .int .i64 c.F, .slice ca c.P.length cc] 24)
  have d0 : (st == 4) = false := by simpa using hs
  clear hs
  go_enter Try.func18, Try.ntmps18
  go_wp2
  go_ret
  exact ⟨rfl, hB⟩

set_option maxHeartbeats 800000 in
theorem gAdmits_any (c : Cf) (ca : Option Addr) (cc : Nat) (st dev : Int) (w : World) (hc : c.Ok) :
    Calls Try.prog 11 #[.agg #[.int .i64 c.N, .int .i64 c.Pi, .int .i64 c.E, .int .i64 c.G, .int .i64 c.F, .slice ca c.P.length cc], .int .i64 st, .int .i64 dev] w fun e w' => e = .returned (.bool (admitB c st dev)) ∧ Below w.heap.size w w' := by
  have h1 := hc.p0; have h2 := hc.p1; have h3 := hc.e0; have h4 := hc.g0
  have hB := alloc_below w (.cells #[.int .i64 c.N, .int .i64 c.Pi, .int .i64 c.E, .int .i64 c.G, .int .i64 c.F, .slice ca c.P.length cc] 24)
  have hX : admitB c st dev = (st != 4 || (decide (-windowI c ≤ dev) && decide (dev ≤ windowI c))) := rfl
  have hwn : windowI c = 2 * c.Pi := rfl
  have z1 : 0 ≤ windowI c := by omega
  have z2 : windowI c ≤ 20000 := by omega
  by_cases hs : st = 4
  · subst hs
    have HX := Lib.hid (hX.trans (by simp) : admitB c 4 dev = (decide (-windowI c ≤ dev) && decide (dev ≤ windowI c)))
    have HR := Lib.hid (gdrule_t c ca cc (hc := hc))
    have HH := Lib.hid (gdholds_any (windowI c) dev (h0 := z1) (h1 := z2))
    clear hX hwn z1 z2
    generalize windowI c = wd at *
    go_enter Try.func11, Try.ntmps11
    go_wp2_with fail
    refine (HR.out _).mono ?_
    rintro e wn ⟨rfl, hb⟩
    go_wp2_with fail
    refine (HH.out _).mono ?_
    rintro e wl ⟨rfl, rfl⟩
    go_wp2
    go_ret
    exact ⟨ret_bool HX.out.symm, hB.trans (hb.mono hB.size)⟩
  · have d0 : (st != 4) = true := by simpa using hs
    have HX := Lib.hid (hX.trans (by rw [d0]; rfl) : admitB c st dev = true)
    have HR := Lib.hid (fun W => gdrule_f c ca cc st W hs)
    clear hX hs d0
    go_enter Try.func11, Try.ntmps11
    go_wp2_with fail
    refine (HR.out _).mono ?_
    rintro e wn ⟨rfl, hb⟩
    go_wp2_with fail
    refine (gdany_any dev _).mono ?_
    rintro e wl ⟨rfl, rfl⟩
    go_wp2
    go_ret
    exact ⟨ret_bool HX.out.symm, hB.trans (hb.mono hB.size)⟩

theorem gStream_any (c : Cf) (ca : Option Addr) (cc : Nat) (st dev : Int) (s : List UInt8) (w : World) (hc : c.Ok) (hl : s.length ≤ 1099511627776) :
    Calls Try.prog 13 #[.agg #[.int .i64 c.N, .int .i64 c.Pi, .int .i64 c.E, .int .i64 c.G, .int .i64 c.F, .slice ca c.P.length cc], .int .i64 st, .int .i64 dev, .string ⟨s.toArray⟩] w fun e w' => e = .returned (.string ⟨(guardL c st dev s).toArray⟩) ∧ Below w.heap.size w w' := by
  have hB := alloc_below w (.cells #[.int .i64 c.N, .int .i64 c.Pi, .int .i64 c.E, .int .i64 c.G, .int .i64 c.F, .slice ca c.P.length cc] 24)
  have HA := Lib.hid (fun W => gAdmits_any c ca cc st dev W hc)
  cases hg : admitB c st dev
  · rw [guard_no _ _ _ _ hg]
    rw [hg] at HA
    clear hg
    go_enter Try.func13, Try.ntmps13
    go_wp2_with fail
    refine (HA.out _).mono ?_
    rintro e wn ⟨rfl, hb⟩
    go_wp2
    go_ret
    exact ⟨rfl, hB.trans (hb.mono hB.size)⟩
  · rw [guard_yes _ _ _ _ hg]
    rw [hg] at HA
    clear hg
    go_enter Try.func13, Try.ntmps13
    go_wp2_with fail
    refine (HA.out _).mono ?_
    rintro e wn ⟨rfl, hb⟩
    replace hB := hB.trans (hb.mono hB.size)
    clear hb
    go_wp2_with fail
    refine (clone_any _ _ (by rw [size_mk]; omega)).mono ?_
    rintro e wn2 ⟨rfl, hb⟩
    go_wp2
    go_ret
    exact ⟨rfl, hB.trans (hb.mono hB.size)⟩

end Go.Proofs.Ytfpbijcgbknklaa

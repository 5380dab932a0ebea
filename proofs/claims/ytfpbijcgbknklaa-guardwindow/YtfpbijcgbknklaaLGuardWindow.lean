/-
  GuardWindow's walk.
-/
import Derived.Test.YtfpbijcgbknklaaLaw80
namespace Go.Proofs.Ytfpbijcgbknklaa
open Go.RowKit Plait
set_option maxRecDepth 100000
set_option linter.unusedVariables false
set_option linter.unusedSimpArgs false


set_option maxHeartbeats 3200000 in
theorem guardWindow_walk (c : Cf) (a : Option Addr) (cap : Nat) (x9 y9 : Int) (w : World) (hrow : Row w a c.P) (iN : inI c.N) (iP : inI c.Pi) (iE : inI c.E) (iG : inI c.G) (iF : inI c.F)
    (x1 : -9223372036854775808 ≤ x9) (x2 : x9 ≤ 9223372036854775807) (y1 : -9223372036854775808 ≤ y9) (y2 : y9 ≤ 9223372036854775807) :
    Calls Try.prog 4 #[.agg #[.int .i64 c.N, .int .i64 c.Pi, .int .i64 c.E, .int .i64 c.G, .int .i64 c.F, .slice a c.P.length cap], .int .i64 x9, .int .i64 y9] w fun e w' => e = .returned (.bool true) ∧ Below w.heap.size w w' := by
  have hB1 : Below w.heap.size w (w.alloc (.cells #[.int .i64 c.N, .int .i64 c.Pi, .int .i64 c.E, .int .i64 c.G, .int .i64 c.F, .slice a c.P.length cap] 24)) := alloc_below w _
  have k_c : Blk (w.alloc (.cells #[.int .i64 c.N, .int .i64 c.Pi, .int .i64 c.E, .int .i64 c.G, .int .i64 c.F, .slice a c.P.length cap] 24)) w.heap.size 24 (confBox c a cap) := Blk.newAt _ _ rfl
  have hB := hB1
  clear hB1
  go_enter Try.func4, Try.ntmps4
  go_wp2_with fail
  refine (known8_any _).mono ?_
  rintro e wn ⟨rfl, hb⟩
  replace hB := hB.trans (hb.mono hB.size)
  replace k_c := k_c.later hb
  clear hb
  have qC := k_c.at
  unfold confBox at qC
  go_wp2_with fail
  refine (make_any2 c a cap _ (hrow.later hB)).mono ?_
  rintro e wm ⟨da, dc, rfl, hrd, hfd, hcp, hb⟩
  replace hB := hB.trans (hb.mono hB.size)
  clear hb qC k_c hfd
  have hok := makeC_ok c
  generalize makeC c = d at *
  have hD : Blk (wm.alloc (.cells #[.int .i64 d.N, .int .i64 d.Pi, .int .i64 d.E, .int .i64 d.G, .int .i64 d.F, .slice da d.P.length dc] 24)) wm.heap.size 24 (confBox d da dc) := Blk.new wm _ _
  replace hB := hB.alloc hB.size (.cells #[.int .i64 d.N, .int .i64 d.Pi, .int .i64 d.E, .int .i64 d.G, .int .i64 d.F, .slice da d.P.length dc] 24)
  replace hrd := hrd.alloc (.cells #[.int .i64 d.N, .int .i64 d.Pi, .int .i64 d.E, .int .i64 d.G, .int .i64 d.F, .slice da d.P.length dc] 24)
  go_upto_region 4 with fail
  generalize wm.alloc (.cells #[.int .i64 d.N, .int .i64 d.Pi, .int .i64 d.E, .int .i64 d.G, .int .i64 d.F, .slice da d.P.length dc] 24) = wn at *
  generalize wm.heap.size = db at *
  have e0 := hok.e0; have g0 := hok.g0; have p0 := hok.p0; have p1 := hok.p1
  have b1 : IntKind.i64.wrap (5 * d.Pi) = 5 * d.Pi := wrap_in _ (by omega) (by omega)
  have i0 := Int.emod_nonneg x9 (show 5 * d.Pi ≠ 0 by omega)
  have i1 := Int.emod_lt_of_pos x9 (show 0 < 5 * d.Pi by omega)
  have j0 : 0 ≤ y9 % 4 := by omega
  have j1 : y9 % 4 < 4 := by omega
  have qD := hD.at
  unfold confBox at qD
  go_wp2_with fail
  refine (within8_any x9 (5 * d.Pi) _ (by omega) (by omega)).mono ?_
  rintro e wl ⟨rfl, rfl⟩
  go_wp2_with fail
  refine (within8_any y9 4 _ (by omega) (by omega)).mono ?_
  rintro e wl ⟨rfl, rfl⟩
  generalize x9 % (5 * d.Pi) = v at *
  generalize y9 % 4 = k at *
  have a3 : admitB d k v = true := by unfold admitB; simp; omega
  by_cases h : v ≤ 2 * d.Pi
  · have d1 : decide (v ≤ 2 * d.Pi) = true := by simpa using h
    have a1 : admitB d 4 v = true := by unfold admitB windowI; simp; omega
    have a2 : admitB d 4 (-v) = true := by unfold admitB windowI; simp; omega
    have HA := Lib.hid (fun W => gAdmits_any d da dc 4 v W hok)
    have HN := Lib.hid (fun W => gAdmits_any d da dc 4 (-v) W hok)
    have HK := Lib.hid (fun W => gAdmits_any d da dc k v W hok)
    have HT := Lib.hid (fun W => gStream_any d da dc 4 (-v) [48, 49, 35] W hok (by simp))
    rw [a1] at HA
    rw [a2] at HN
    rw [a3] at HK
    rw [show guardL d 4 (-v) [48, 49, 35] = [48, 49, 35] from guard_yes _ _ _ _ a2] at HT
    have b2 : IntKind.i64.wrap (2 * d.Pi) = 2 * d.Pi := wrap_in _ (by omega) (by omega)
    have b3 : IntKind.i64.wrap (-v) = -v := wrap_in _ (by omega) (by omega)
    have b4 : IntKind.i64.wrap (0 - v) = -v := by rw [Int.zero_sub]; exact b3
    clear a1 a2 a3
    go_wp2_with fail
    refine (HA.out _).mono ?_
    rintro e wq ⟨rfl, hb⟩
    (try clear qD)
    (try clear qG)
    replace hB := hB.trans (hb.mono hB.size)
    replace hD := hD.later hb
    replace hrd := hrd.later hb
    have qD := hD.at
    unfold confBox at qD
    clear hb
    go_wp2_with fail
    refine (HN.out _).mono ?_
    rintro e wq ⟨rfl, hb⟩
    (try clear qD)
    (try clear qG)
    replace hB := hB.trans (hb.mono hB.size)
    replace hD := hD.later hb
    replace hrd := hrd.later hb
    have qD := hD.at
    unfold confBox at qD
    clear hb
    go_wp2_with fail
    refine (HK.out _).mono ?_
    rintro e wq ⟨rfl, hb⟩
    (try clear qD)
    (try clear qG)
    replace hB := hB.trans (hb.mono hB.size)
    replace hD := hD.later hb
    replace hrd := hrd.later hb
    have qD := hD.at
    unfold confBox at qD
    clear hb
    go_wp2_with fail
    refine (HT.out _).mono ?_
    rintro e wq ⟨rfl, hb⟩
    (try clear qD)
    (try clear qG)
    replace hB := hB.trans (hb.mono hB.size)
    replace hD := hD.later hb
    replace hrd := hrd.later hb
    have qD := hD.at
    unfold confBox at qD
    clear hb
    go_wp2_with fail
    refine (one8_any _ _).mono ?_
    rintro e wl ⟨rfl, rfl⟩
    go_wp2
    go_ret
    exact ⟨rfl, hB.alloc hB.size _⟩
  · have d1 : decide (v ≤ 2 * d.Pi) = false := by simpa using h
    have a1 : admitB d 4 v = false := by unfold admitB windowI; simp; omega
    have a2 : admitB d 4 (-v) = false := by unfold admitB windowI; simp; omega
    have HA := Lib.hid (fun W => gAdmits_any d da dc 4 v W hok)
    have HN := Lib.hid (fun W => gAdmits_any d da dc 4 (-v) W hok)
    have HK := Lib.hid (fun W => gAdmits_any d da dc k v W hok)
    have HT := Lib.hid (fun W => gStream_any d da dc 4 (-v) [48, 49, 35] W hok (by simp))
    rw [a1] at HA
    rw [a2] at HN
    rw [a3] at HK
    rw [show guardL d 4 (-v) [48, 49, 35] = [] from guard_no _ _ _ _ a2] at HT
    have b2 : IntKind.i64.wrap (2 * d.Pi) = 2 * d.Pi := wrap_in _ (by omega) (by omega)
    have b3 : IntKind.i64.wrap (-v) = -v := wrap_in _ (by omega) (by omega)
    have b4 : IntKind.i64.wrap (0 - v) = -v := by rw [Int.zero_sub]; exact b3
    clear a1 a2 a3
    go_wp2_with fail
    refine (HA.out _).mono ?_
    rintro e wq ⟨rfl, hb⟩
    (try clear qD)
    (try clear qG)
    replace hB := hB.trans (hb.mono hB.size)
    replace hD := hD.later hb
    replace hrd := hrd.later hb
    have qD := hD.at
    unfold confBox at qD
    clear hb
    go_wp2_with fail
    refine (HN.out _).mono ?_
    rintro e wq ⟨rfl, hb⟩
    (try clear qD)
    (try clear qG)
    replace hB := hB.trans (hb.mono hB.size)
    replace hD := hD.later hb
    replace hrd := hrd.later hb
    have qD := hD.at
    unfold confBox at qD
    clear hb
    go_wp2_with fail
    refine (HK.out _).mono ?_
    rintro e wq ⟨rfl, hb⟩
    (try clear qD)
    (try clear qG)
    replace hB := hB.trans (hb.mono hB.size)
    replace hD := hD.later hb
    replace hrd := hrd.later hb
    have qD := hD.at
    unfold confBox at qD
    clear hb
    go_wp2_with fail
    refine (HT.out _).mono ?_
    rintro e wq ⟨rfl, hb⟩
    (try clear qD)
    (try clear qG)
    replace hB := hB.trans (hb.mono hB.size)
    replace hD := hD.later hb
    replace hrd := hrd.later hb
    have qD := hD.at
    unfold confBox at qD
    clear hb
    go_wp2_with fail
    refine (one8_any _ _).mono ?_
    rintro e wl ⟨rfl, rfl⟩
    go_wp2
    go_ret
    exact ⟨rfl, hB.alloc hB.size _⟩

end Go.Proofs.Ytfpbijcgbknklaa

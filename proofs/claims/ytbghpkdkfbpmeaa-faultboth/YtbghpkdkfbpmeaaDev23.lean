/-
  Contracts of package fault, third part: whom a locus hits, who is right, how its clock seems.
-/
import Derived.Test.YtbghpkdkfbpmeaaDev21
namespace Go.Proofs.Ytbghpkdkfbpmeaa
open Go.RowKit Plait
set_option maxRecDepth 100000
set_option linter.unusedVariables false

set_option maxHeartbeats 1600000 in
theorem lHits_any (c : Cf) (ca : Option Addr) (cc : Nat) (f : Fa) (a : Option Addr) (ac : Nat) (d : Option Addr) (dc : Nat) (i j : Int) (w : World) (hc : c.Ok) (hi : inI i) (hj : inI j) :
    Calls Try.prog 25 #[.agg #[.int .i64 c.N, .int .i64 c.Pi, .int .i64 c.E, .int .i64 c.G, .int .i64 c.F, .slice ca c.P.length cc], .agg #[.int .i64 f.K, .int .i64 f.At, .int .i64 f.F, .int .i64 f.To, .slice a f.A.length ac, .slice d f.D.length dc], .int .i64 i, .int .i64 j] w fun e w' => e = .returned (.bool (hitsB c f i j)) ∧ Below w.heap.size w w' := by
  have hB0 : Below w.heap.size w ((w.alloc (.cells #[.int .i64 c.N, .int .i64 c.Pi, .int .i64 c.E, .int .i64 c.G, .int .i64 c.F, .slice ca c.P.length cc] 24)).alloc (.cells #[.int .i64 f.K, .int .i64 f.At, .int .i64 f.F, .int .i64 f.To, .slice a f.A.length ac, .slice d f.D.length dc] 27)) := (alloc_below w _).alloc (by simp) _
  have hC : Blk ((w.alloc (.cells #[.int .i64 c.N, .int .i64 c.Pi, .int .i64 c.E, .int .i64 c.G, .int .i64 c.F, .slice ca c.P.length cc] 24)).alloc (.cells #[.int .i64 f.K, .int .i64 f.At, .int .i64 f.F, .int .i64 f.To, .slice a f.A.length ac, .slice d f.D.length dc] 27)) w.heap.size 24 (confBox c ca cc) := (Blk.new w _ _).alloc _
  have HL := Lib.hid (fun W => llocusOf_any f a ac d dc W)
  have h6 := hc.n6
  have h12 := hc.n12
  have hE : ∃ t x, locV f = .iface t (.int .i64 x) ∧ ∃ g, (t = 70 ∧ g = 108 ∨ t = 71 ∧ g = 111 ∨ t = 72 ∧ g = 114) ∧ ∀ W, Calls Try.prog g #[.int .i64 x, .int .i64 c.N, .int .i64 i, .int .i64 j] W fun e w' => e = .returned (.bool (hitsB c f i j)) ∧ Below W.heap.size W w' := by
    unfold hitsB locV
    by_cases k1 : f.K = 1
    · exact ⟨_, f.At, by rw [if_neg (by omega), if_pos k1], _, .inr (.inl ⟨rfl, rfl⟩), fun W => by rw [if_pos k1]; exact (latNode_sends _ _ _ _ W).mono fun e w' ⟨h1, h2⟩ => ⟨h1, h2 ▸ Below.refl _ _⟩⟩
    · by_cases k2 : f.K = 2
      · exact ⟨_, f.At, by rw [if_neg (by omega), if_neg k1, if_pos k2], _, .inr (.inr ⟨rfl, rfl⟩), fun W => by rw [if_neg k1, if_pos k2]; exact latLink_sends _ _ _ _ W (by omega) (by omega) hi hj⟩
      · by_cases k0 : f.K = 0
        · exact ⟨_, f.At, by rw [if_pos k0], _, .inl ⟨rfl, rfl⟩, fun W => by rw [if_neg k1, if_neg k2]; exact (lnowhere_sends _ _ _ _ W).mono fun e w' ⟨h1, h2⟩ => ⟨h1, h2 ▸ Below.refl _ _⟩⟩
        · exact ⟨_, 0, by rw [if_neg k0, if_neg k1, if_neg k2], _, .inl ⟨rfl, rfl⟩, fun W => by rw [if_neg k1, if_neg k2]; exact (lnowhere_sends _ _ _ _ W).mono fun e w' ⟨h1, h2⟩ => ⟨h1, h2 ▸ Below.refl _ _⟩⟩
  obtain ⟨t, x, hV, g, hg, hM⟩ := hE
  rw [hV] at HL
  have HM := Lib.hid hM
  clear hM hV
  rcases hg with ⟨rfl, rfl⟩ | ⟨rfl, rfl⟩ | ⟨rfl, rfl⟩
  all_goals
    go_enter Try.func25, Try.ntmps25
    go_wp2_with fail
    refine (HL.out _).mono ?_
    rintro e wn ⟨rfl, hb⟩
    replace hB0 := hB0.trans (hb.mono hB0.size)
    replace hC := hC.later hb
    have hQ := hC.at
    unfold confBox at hQ
    clear hb
    go_wp2_with fail
    refine (HM.out _).mono ?_
    rintro e wm ⟨rfl, hb⟩
    go_wp2
    go_ret
    exact ⟨rfl, hB0.trans (hb.mono hB0.size)⟩

theorem lRight_any (c : Cf) (ca : Option Addr) (cc : Nat) (f : Fa) (a : Option Addr) (ac : Nat) (d : Option Addr) (dc : Nat) (r i : Int) (w : World) :
    Calls Try.prog 26 #[.agg #[.int .i64 c.N, .int .i64 c.Pi, .int .i64 c.E, .int .i64 c.G, .int .i64 c.F, .slice ca c.P.length cc], .agg #[.int .i64 f.K, .int .i64 f.At, .int .i64 f.F, .int .i64 f.To, .slice a f.A.length ac, .slice d f.D.length dc], .int .i64 r, .int .i64 i] w fun e w' => e = .returned (.bool (rightB f r i)) ∧ Below w.heap.size w w' := by
  have hB0 : Below w.heap.size w ((w.alloc (.cells #[.int .i64 c.N, .int .i64 c.Pi, .int .i64 c.E, .int .i64 c.G, .int .i64 c.F, .slice ca c.P.length cc] 24)).alloc (.cells #[.int .i64 f.K, .int .i64 f.At, .int .i64 f.F, .int .i64 f.To, .slice a f.A.length ac, .slice d f.D.length dc] 27)) := (alloc_below w _).alloc (by simp) _
  have HL := Lib.hid (fun W => lisAt_any f a ac d dc i W)
  have HF := Lib.hid (show rightB f r i = (decide (f.To ≤ r) || !atB f i) from rfl)
  generalize atB f i = b at *
  cases h : decide (f.To ≤ r)
  · rw [h] at HF
    go_enter Try.func26, Try.ntmps26
    go_wp2_with fail
    refine (HL.out _).mono ?_
    rintro e wn ⟨rfl, hb⟩
    go_wp2
    go_ret
    exact ⟨ret_bool (by rw [HF.out]; simp), hB0.trans (hb.mono hB0.size)⟩
  · rw [h] at HF
    go_enter Try.func26, Try.ntmps26
    go_wp2
    go_ret
    exact ⟨ret_bool (by rw [HF.out]; simp), hB0⟩

theorem emod_at {α : Type} (xs : List α) (n : Int) (h : 0 < xs.length) : ∃ k : Nat, n % (xs.length : Int) = k ∧ k < xs.length := by
  have h1 := Int.emod_nonneg n (show (xs.length : Int) ≠ 0 by omega)
  have h2 := Int.emod_lt_of_pos n (show 0 < (xs.length : Int) by omega)
  exact ⟨(n % (xs.length : Int)).toNat, by omega, by omega⟩

theorem lpickI_any (a : Option Addr) (D : List Int) (cap : Nat) (n : Int) (w : World) (hD : Row w a D) (h0 : 0 < D.length) (hl : D.length ≤ 1000000) :
    Calls Try.prog 34 #[.slice a D.length cap, .int .i64 n] w fun e w' => e = .returned (.int .i64 (pickI D n)) ∧ w = w' := by
  obtain ⟨k, hk, hk2⟩ := emod_at D n h0
  have HR := Lib.hid (fun W => lrem_any n D.length W (by omega) (by omega))
  rw [hk] at HR
  obtain ⟨b, off, rfl, hlt, hc, _, _⟩ := hD.get k hk2
  have HF := Lib.hid (show pickI D n = D[k] by unfold pickI; rw [hk]; simp [hk2])
  clear hk
  go_enter Try.func34, Try.ntmps34
  go_wp2_with fail
  refine (HR.out _).mono ?_
  rintro e wl ⟨rfl, rfl⟩
  go_wp2
  go_ret
  exact ⟨ret_int HF.out.symm, rfl⟩

theorem lpickA_any (a : Option Addr) (A : List Ac) (cap : Nat) (n : Int) (w : World) (hA : RowA w a A) (h0 : 0 < A.length) (hl : A.length ≤ 1000000) :
    Calls Try.prog 41 #[.slice a A.length cap, .int .i64 n] w fun e w' => e = .returned (.agg #[.int .i64 (pickA A n).H, .int .i64 (pickA A n).N, .string ⟨(pickA A n).T.toArray⟩]) ∧ Below w.heap.size w w' := by
  obtain ⟨k, hk, hk2⟩ := emod_at A n h0
  have HR := Lib.hid (fun W => lrem_any n A.length W (by omega) (by omega))
  rw [hk] at HR
  obtain ⟨b, off, rfl, hlt, c1, c2, c3, _, _⟩ := hA.get k hk2
  have HF := Lib.hid (show pickA A n = A[k] by unfold pickA; rw [hk]; simp [hk2])
  rw [HF.out]
  clear hk
  generalize A[k] = t at *
  go_enter Try.func41, Try.ntmps41
  go_wp2_with fail
  refine (HR.out _).mono ?_
  rintro e wl ⟨rfl, rfl⟩
  go_wp2
  refine bodyPost_ret (v := .agg #[.int .i64 t.H, .int .i64 t.N, .string ⟨t.T.toArray⟩]) (by simp [results, Try.results41, go_sem]) rfl ⟨rfl, alloc_below _ _⟩

set_option maxHeartbeats 1600000 in
theorem lDev_any (c : Cf) (ca : Option Addr) (cc : Nat) (f : Fa) (a : Option Addr) (ac : Nat) (d : Option Addr) (dc : Nat) (r o i dev : Int) (w : World) (hc : c.Ok) (hD : Row w d f.D) (hl : f.D.length ≤ 1000000) (r0 : 0 ≤ r) (r1 : r ≤ 1000000) (i0 : 0 ≤ i) (i1 : i ≤ 1000000) :
    Calls Try.prog 16 #[.agg #[.int .i64 c.N, .int .i64 c.Pi, .int .i64 c.E, .int .i64 c.G, .int .i64 c.F, .slice ca c.P.length cc], .agg #[.int .i64 f.K, .int .i64 f.At, .int .i64 f.F, .int .i64 f.To, .slice a f.A.length ac, .slice d f.D.length dc], .int .i64 r, .int .i64 o, .int .i64 i, .int .i64 dev] w fun e w' => e = .returned (.int .i64 (devL c f r o i dev)) ∧ Below w.heap.size w w' := by
  have hB0 : Below w.heap.size w ((w.alloc (.cells #[.int .i64 c.N, .int .i64 c.Pi, .int .i64 c.E, .int .i64 c.G, .int .i64 c.F, .slice ca c.P.length cc] 24)).alloc (.cells #[.int .i64 f.K, .int .i64 f.At, .int .i64 f.F, .int .i64 f.To, .slice a f.A.length ac, .slice d f.D.length dc] 27)) := (alloc_below w _).alloc (by simp) _
  have hC : Blk ((w.alloc (.cells #[.int .i64 c.N, .int .i64 c.Pi, .int .i64 c.E, .int .i64 c.G, .int .i64 c.F, .slice ca c.P.length cc] 24)).alloc (.cells #[.int .i64 f.K, .int .i64 f.At, .int .i64 f.F, .int .i64 f.To, .slice a f.A.length ac, .slice d f.D.length dc] 27)) w.heap.size 24 (confBox c ca cc) := (Blk.new w _ _).alloc _
  have hF : Blk ((w.alloc (.cells #[.int .i64 c.N, .int .i64 c.Pi, .int .i64 c.E, .int .i64 c.G, .int .i64 c.F, .slice ca c.P.length cc] 24)).alloc (.cells #[.int .i64 f.K, .int .i64 f.At, .int .i64 f.F, .int .i64 f.To, .slice a f.A.length ac, .slice d f.D.length dc] 27)) (w.heap.size + 1) 27 (faBox f a ac d dc) := Blk.newAt _ _ (by simp)
  have HA := Lib.hid (fun W => lisAt_any f a ac d dc o W)
  by_cases h1 : r < f.F
  · have HF := Lib.hid (show devL c f r o i dev = dev by unfold devL; rw [if_pos (.inl h1)])
    have d1 : decide (r < f.F) = true := by simpa using h1
    clear h1
    go_enter Try.func16, Try.ntmps16
    go_wp2
    go_ret
    exact ⟨ret_int HF.out.symm, hB0⟩
  · have d1 : decide (r < f.F) = false := by simpa using h1
    by_cases h2 : f.To ≤ r
    · have HF := Lib.hid (show devL c f r o i dev = dev by unfold devL; rw [if_pos (.inr (.inl h2))])
      have d2 : decide (f.To ≤ r) = true := by simpa using h2
      clear h1 h2
      go_enter Try.func16, Try.ntmps16
      go_wp2
      go_ret
      exact ⟨ret_int HF.out.symm, hB0⟩
    · have d2 : decide (f.To ≤ r) = false := by simpa using h2
      cases h3 : atB f o
      · have HF := Lib.hid (show devL c f r o i dev = dev by unfold devL; rw [if_pos (.inr (.inr h3))])
        rw [h3] at HA
        clear h1 h2 h3
        go_enter Try.func16, Try.ntmps16
        go_wp2_with fail
        refine (HA.out _).mono ?_
        rintro e wn ⟨rfl, hb⟩
        go_wp2
        go_ret
        exact ⟨ret_int HF.out.symm, hB0.trans (hb.mono hB0.size)⟩
      · have HF := Lib.hid (show devL c f r o i dev = if f.D = [] then 0 else clampI (3 * windowI c) (pickI f.D (13 * r + i)) by unfold devL; rw [if_neg (by simp [h3]; omega)])
        rw [h3] at HA
        clear h3
        by_cases h4 : f.D.length = 0
        · have HF2 := Lib.hid (show devL c f r o i dev = 0 by rw [HF.out, if_pos (List.eq_nil_of_length_eq_zero h4)])
          have d4 : ((f.D.length : Int) == 0) = true := by simpa using h4
          clear h1 h2 h4
          go_enter Try.func16, Try.ntmps16
          go_wp2_with fail
          refine (HA.out _).mono ?_
          rintro e wn ⟨rfl, hb⟩
          replace hB0 := hB0.trans (hb.mono hB0.size)
          replace hF := hF.later hb
          have hQ := hF.at
          unfold faBox at hQ
          clear hb
          go_wp2
          go_ret
          exact ⟨ret_int HF2.out.symm, hB0⟩
        · have HF2 := Lib.hid (show devL c f r o i dev = clampI (3 * windowI c) (pickI f.D (13 * r + i)) by rw [HF.out, if_neg (by intro h; rw [h] at h4; simp at h4)])
          have d4 : ((f.D.length : Int) == 0) = false := by simpa using h4
          have HW := Lib.hid (fun W => cwindow_any c ca cc W hc)
          have HP := Lib.hid (fun W (h : Row W d f.D) => lpickI_any d f.D dc (13 * r + i) W h (by omega) hl)
          have hw : 0 ≤ windowI c ∧ windowI c ≤ 20000 := by unfold windowI; have := hc.p0; have := hc.p1; have := hc.e0; have := hc.g0; omega
          have HCl := Lib.hid (show clampI (3 * windowI c) (pickI f.D (13 * r + i)) = max (-(3 * windowI c)) (min (pickI f.D (13 * r + i)) (3 * windowI c)) from rfl)
          have hp : -9223372036854775808 ≤ pickI f.D (13 * r + i) ∧ pickI f.D (13 * r + i) ≤ 9223372036854775807 := by
            obtain ⟨k, hk, hk2⟩ := emod_at f.D (13 * r + i) (by omega)
            unfold pickI
            rw [hk]
            simp [hk2]
            exact hD.2.1 _ (List.getElem_mem hk2)
          clear h1 h2 h4
          generalize windowI c = win at *
          generalize pickI f.D (13 * r + i) = v at *
          obtain ⟨hw1, hw2⟩ := hw
          obtain ⟨hp1, hp2⟩ := hp
          go_enter Try.func16, Try.ntmps16
          go_wp2_with fail
          refine (HA.out _).mono ?_
          rintro e wn ⟨rfl, hb⟩
          replace hB0 := hB0.trans (hb.mono hB0.size)
          replace hF := hF.later hb
          replace hC := hC.later hb
          have hQ := hF.at
          unfold faBox at hQ
          have hQc := hC.at
          unfold confBox at hQc
          clear hb
          go_wp2_with fail
          refine (HW.out _).mono ?_
          rintro e wm ⟨rfl, hb⟩
          clear hQ hQc
          replace hB0 := hB0.trans (hb.mono hB0.size)
          replace hF := hF.later hb
          have hQ := hF.at
          unfold faBox at hQ
          clear hb
          go_wp2_with fail
          refine (HP.out _ (hD.later hB0)).mono ?_
          rintro e wl ⟨rfl, rfl⟩
          go_wp2
          all_goals
            go_ret
            refine ⟨ret_int (Eq.symm (HF2.out.trans (HCl.out.trans ?_))), hB0⟩
            omega

end Go.Proofs.Ytbghpkdkfbpmeaa

/-
  Contracts of package fault: whether a locus may be.
-/
import Derived.Test.YtbghpkdkfbpmeaaDev21
namespace Go.Proofs.Ytbghpkdkfbpmeaa
open Go.RowKit Plait
set_option maxRecDepth 100000
set_option linter.unusedVariables false

theorem any_step (A : List Ac) (k : Nat) (h : k < A.length) (ha : (A.take k).any longA = false) (e : longA A[k] = false) : (A.take (k + 1)).any longA = false := by
  rw [List.take_succ_eq_append_getElem h, List.any_append, ha]
  simp [e]
theorem any_yes (A : List Ac) (k : Nat) (h : k < A.length) (e : longA A[k] = true) : A.any longA = true := List.any_eq_true.2 ⟨A[k], List.getElem_mem h, e⟩
theorem any_end (A : List Ac) (k : Nat) (h : ¬ k < A.length) (ha : (A.take k).any longA = false) : A.any longA = false := by
  rw [List.take_of_length_le (by omega)] at ha
  exact ha

set_option maxHeartbeats 800000 in
theorem lcontains_any (a : Option Addr) (A : List Ac) (cap : Nat) (w : World) (hA : RowA w a A) :
    Calls Try.prog 30 #[.slice a A.length cap, .func (.func 31) #[] #[]] w fun e w' => e = .returned (.bool (A.any longA)) ∧ Below w.heap.size w w' := by
  have HI := Lib.hid (show Calls Try.prog 42 #[.slice a A.length cap, .func (.func 31) #[] #[]] w fun e w' => (∃ r : Int, e = .returned (.int .i64 r) ∧ decide (0 ≤ r) = A.any longA) ∧ Below w.heap.size w w' from by
    have hlen := hA.1
    go_enter Try.func42, Try.ntmps42
    go_wp2
    go_loopw [5, 8] (fun _ i w' => ∃ k : Nat, k ≤ A.length ∧ i = .int .i64 k ∧ (A.take k).any longA = false ∧ Below w.heap.size w w') (fun _ i _ => A.length - (intOf i).toNat)
    case atStart => exact ⟨0, Nat.zero_le _, rfl, by simp, Below.refl _ _⟩
    case round =>
      obtain ⟨k, hk, rfl, hno, hB⟩ := hrel
      have HN := Lib.hid hno
      clear hno
      by_cases hlt : k < A.length
      · have d1 : decide (k < A.length) = true := by simpa using hlt
        obtain ⟨b, off, rfl, hbl, c1, c2, c3, _, _, hT⟩ := (hA.later hB).get k hlt
        have HC := Lib.hid (fun W => lisTooLong_any A[k] W hT)
        cases hx : longA A[k]
        · have HS := Lib.hid (any_step A k hlt HN.out hx)
          rw [hx] at HC
          clear hx
          generalize A[k] = t at *
          go_wp2_with fail
          refine (HC.out _).mono ?_
          rintro e wn ⟨rfl, hb⟩
          go_wp2
          go_roundw
          case rel => exact ⟨k + 1, by omega, by go_num, HS.out, hB.trans (hb.mono hB.size)⟩
          case measure => simp [intOf]; omega
        · have HF := Lib.hid (any_yes A k hlt hx)
          rw [hx] at HC
          clear hx
          generalize A[k] = t at *
          go_wp2_with fail
          refine (HC.out _).mono ?_
          rintro e wn ⟨rfl, hb⟩
          go_wp2
          go_ret
          exact ⟨⟨_, rfl, by rw [HF.out]; simp⟩, hB.trans (hb.mono hB.size)⟩
      · have d1 : decide (k < A.length) = false := by simpa using hlt
        have HF := Lib.hid (any_end A k hlt HN.out)
        go_wp2
        go_ret
        exact ⟨⟨_, rfl, by rw [HF.out]; rfl⟩, hB⟩)
  go_enter Try.func30, Try.ntmps30
  go_wp2_with fail
  refine HI.out.mono ?_
  rintro e wn ⟨⟨r, rfl, hr⟩, hb⟩
  have HR := Lib.hid hr
  clear hr
  go_wp2
  go_ret
  exact ⟨ret_bool HR.out, hb⟩

/-- The call of a locus' method exists, whatever the kind. -/
theorem place_of {c : Cf} {f : Fa} : (f.K = 0 → placeL c f = (f.At == 0)) ∧ (f.K = 1 → placeL c f = (decide (0 ≤ f.At) && decide (f.At < c.N))) ∧ (f.K = 2 → placeL c f = (decide (0 ≤ f.At) && decide (f.At < 2 * c.N))) := by
  refine ⟨fun h => ?_, fun h => ?_, fun h => ?_⟩
  · unfold placeL placesI
    rw [if_neg (by omega), if_neg (by omega)]
    by_cases h0 : f.At = 0
    · simp [h0]
    · have : ¬ (0 ≤ f.At ∧ f.At < 1) := by omega
      rw [Bool.eq_iff_iff]
      simp [h0]
      omega
  · unfold placeL placesI
    rw [if_pos h]
  · unfold placeL placesI
    rw [if_neg (by omega), if_pos h]

set_option maxHeartbeats 3200000 in
theorem lCheck_any (c : Cf) (ca : Option Addr) (cc : Nat) (f : Fa) (a : Option Addr) (ac : Nat) (d : Option Addr) (dc : Nat) (w : World) (hc : c.Ok) (hA : RowA w a f.A) (hD : f.D.length ≤ 9223372036854775807) :
    Calls Try.prog 13 #[.agg #[.int .i64 c.N, .int .i64 c.Pi, .int .i64 c.E, .int .i64 c.G, .int .i64 c.F, .slice ca c.P.length cc], .agg #[.int .i64 f.K, .int .i64 f.At, .int .i64 f.F, .int .i64 f.To, .slice a f.A.length ac, .slice d f.D.length dc]] w fun e w' => e = .returned (.int .i64 (checkL c f)) ∧ Below w.heap.size w w' := by
  have hB0 : Below w.heap.size w ((w.alloc (.cells #[.int .i64 c.N, .int .i64 c.Pi, .int .i64 c.E, .int .i64 c.G, .int .i64 c.F, .slice ca c.P.length cc] 24)).alloc (.cells #[.int .i64 f.K, .int .i64 f.At, .int .i64 f.F, .int .i64 f.To, .slice a f.A.length ac, .slice d f.D.length dc] 27)) := (alloc_below w _).alloc (by simp) _
  have hC : Blk ((w.alloc (.cells #[.int .i64 c.N, .int .i64 c.Pi, .int .i64 c.E, .int .i64 c.G, .int .i64 c.F, .slice ca c.P.length cc] 24)).alloc (.cells #[.int .i64 f.K, .int .i64 f.At, .int .i64 f.F, .int .i64 f.To, .slice a f.A.length ac, .slice d f.D.length dc] 27)) w.heap.size 24 (confBox c ca cc) := (Blk.new w _ _).alloc _
  have hF : Blk ((w.alloc (.cells #[.int .i64 c.N, .int .i64 c.Pi, .int .i64 c.E, .int .i64 c.G, .int .i64 c.F, .slice ca c.P.length cc] 24)).alloc (.cells #[.int .i64 f.K, .int .i64 f.At, .int .i64 f.F, .int .i64 f.To, .slice a f.A.length ac, .slice d f.D.length dc] 27)) (w.heap.size + 1) 27 (faBox f a ac d dc) := Blk.newAt _ _ (by simp)
  have HL := Lib.hid (fun W => llocusOf_any f a ac d dc W)
  have HR := Lib.hid (fun W => lroundsHold_any f a ac d dc W)
  have HX := Lib.hid (fun W (h : RowA W a f.A) => lcontains_any a f.A ac W h)
  have h6 := hc.n6
  have h12 := hc.n12
  have hAl := hA.1
  by_cases hk : knownL f = true
  · have hE : ∃ t x, locV f = .iface t (.int .i64 x) ∧ ∃ g, (t = 70 ∧ g = 107 ∨ t = 71 ∧ g = 109 ∨ t = 72 ∧ g = 113) ∧ ∀ W, Calls Try.prog g #[.int .i64 x, .int .i64 c.N] W fun e w' => e = .returned (.bool (placeL c f)) ∧ W = w' := by
      obtain ⟨p0, p1, p2⟩ := place_of (c := c) (f := f)
      rcases (by unfold knownL at hk; simp at hk; omega : f.K = 0 ∨ f.K = 1 ∨ f.K = 2) with k | k | k
      · exact ⟨_, f.At, by unfold locV; rw [if_pos k], _, .inl ⟨rfl, rfl⟩, fun W => by rw [p0 k]; exact lnowhere_exists _ _ W⟩
      · exact ⟨_, f.At, by unfold locV; rw [if_neg (by omega), if_pos k], _, .inr (.inl ⟨rfl, rfl⟩), fun W => by rw [p1 k]; exact latNode_exists _ _ W⟩
      · exact ⟨_, f.At, by unfold locV; rw [if_neg (by omega), if_neg (by omega), if_pos k], _, .inr (.inr ⟨rfl, rfl⟩), fun W => by rw [p2 k]; exact latLink_exists _ _ W (by omega) (by omega)⟩
    obtain ⟨t, x, hV, g, hg, hM⟩ := hE
    rw [hV, hk] at HL
    have HM := Lib.hid hM
    have H1 := Lib.hid (checkL_p c f hk)
    have H2 := Lib.hid (checkL_l c f hk)
    have HG : longL f = (decide ((40 : Int) < (f.A.length : Int)) || decide ((40 : Int) < (f.D.length : Int)) || f.A.any longA) := rfl
    have HG2 := Lib.hid HG
    clear hM hk HG
    generalize f.A.any longA = lg at *
    generalize placeL c f = p at *
    generalize roundsL f = r at *
    rcases hg with ⟨rfl, rfl⟩ | ⟨rfl, rfl⟩ | ⟨rfl, rfl⟩
    all_goals
      clear hV
      cases p
      · go_enter Try.func13, Try.ntmps13
        go_wp2_with fail
        refine (HL.out _).mono ?_
        rintro e wn ⟨rfl, hb⟩
        replace hB0 := hB0.trans (hb.mono hB0.size)
        replace hC := hC.later hb
        have hQ := hC.at
        unfold confBox at hQ
        clear hb hF
        go_wp2_with fail
        refine (HM.out _).mono ?_
        rintro e wl ⟨rfl, rfl⟩
        go_wp2
        go_ret
        exact ⟨ret_int (H1.out rfl).symm, hB0⟩
      · cases r
        · go_enter Try.func13, Try.ntmps13
          go_wp2_with fail
          refine (HL.out _).mono ?_
          rintro e wn ⟨rfl, hb⟩
          replace hB0 := hB0.trans (hb.mono hB0.size)
          replace hC := hC.later hb
          replace hF := hF.later hb
          have hQ := hC.at
          unfold confBox at hQ
          have hQf := hF.at
          unfold faBox at hQf
          clear hb
          go_wp2_with fail
          refine (HM.out _).mono ?_
          rintro e wl ⟨rfl, rfl⟩
          go_wp2_with fail
          refine (HR.out _).mono ?_
          rintro e wm ⟨rfl, hb⟩
          go_wp2
          go_ret
          exact ⟨ret_int (H1.out rfl).symm, hB0.trans (hb.mono hB0.size)⟩
        · have H3 := Lib.hid (H2.out rfl)
          cases d1 : decide ((40 : Int) < (f.A.length : Int))
          · cases d2 : decide ((40 : Int) < (f.D.length : Int))
            · have H4 := Lib.hid (show longL f = lg by rw [HG2.out, d1, d2]; rfl)
              cases lg
              all_goals
                have H5 := Lib.hid (show checkL c f = _ by rw [H3.out, H4.out])
                go_enter Try.func13, Try.ntmps13
                go_wp2_with fail
                refine (HL.out _).mono ?_
                rintro e wn ⟨rfl, hb⟩
                replace hB0 := hB0.trans (hb.mono hB0.size)
                replace hC := hC.later hb
                replace hF := hF.later hb
                have hQ := hC.at
                unfold confBox at hQ
                have hQf := hF.at
                unfold faBox at hQf
                clear hb
                go_wp2_with fail
                refine (HM.out _).mono ?_
                rintro e wl ⟨rfl, rfl⟩
                go_wp2_with fail
                refine (HR.out _).mono ?_
                rintro e wm ⟨rfl, hb⟩
                clear hQ hQf
                replace hB0 := hB0.trans (hb.mono hB0.size)
                replace hF := hF.later hb
                have hQf := hF.at
                unfold faBox at hQf
                clear hb hC
                go_wp2_with fail
                refine (HX.out _ (hA.later hB0)).mono ?_
                rintro e wk ⟨rfl, hb⟩
                go_wp2
                go_ret
                exact ⟨ret_int H5.out.symm, hB0.trans (hb.mono hB0.size)⟩
            · have H4 := Lib.hid (show longL f = true by rw [HG2.out, d2]; simp)
              have H5 := Lib.hid (show checkL c f = 2 by rw [H3.out, H4.out]; rfl)
              go_enter Try.func13, Try.ntmps13
              go_wp2_with fail
              refine (HL.out _).mono ?_
              rintro e wn ⟨rfl, hb⟩
              replace hB0 := hB0.trans (hb.mono hB0.size)
              replace hC := hC.later hb
              replace hF := hF.later hb
              have hQ := hC.at
              unfold confBox at hQ
              have hQf := hF.at
              unfold faBox at hQf
              clear hb
              go_wp2_with fail
              refine (HM.out _).mono ?_
              rintro e wl ⟨rfl, rfl⟩
              go_wp2_with fail
              refine (HR.out _).mono ?_
              rintro e wm ⟨rfl, hb⟩
              clear hQ hQf
              replace hB0 := hB0.trans (hb.mono hB0.size)
              replace hF := hF.later hb
              have hQf := hF.at
              unfold faBox at hQf
              clear hb hC
              go_wp2
              go_ret
              exact ⟨ret_int H5.out.symm, hB0⟩
          · have H4 := Lib.hid (show longL f = true by rw [HG2.out, d1]; rfl)
            have H5 := Lib.hid (show checkL c f = 2 by rw [H3.out, H4.out]; rfl)
            go_enter Try.func13, Try.ntmps13
            go_wp2_with fail
            refine (HL.out _).mono ?_
            rintro e wn ⟨rfl, hb⟩
            replace hB0 := hB0.trans (hb.mono hB0.size)
            replace hC := hC.later hb
            replace hF := hF.later hb
            have hQ := hC.at
            unfold confBox at hQ
            have hQf := hF.at
            unfold faBox at hQf
            clear hb
            go_wp2_with fail
            refine (HM.out _).mono ?_
            rintro e wl ⟨rfl, rfl⟩
            go_wp2_with fail
            refine (HR.out _).mono ?_
            rintro e wm ⟨rfl, hb⟩
            clear hQ hQf
            replace hB0 := hB0.trans (hb.mono hB0.size)
            replace hF := hF.later hb
            have hQf := hF.at
            unfold faBox at hQf
            clear hb hC
            go_wp2
            go_ret
            exact ⟨ret_int H5.out.symm, hB0⟩
  · replace hk : knownL f = false := by simpa using hk
    have HK := Lib.hid (checkL_k c f hk)
    rw [hk] at HL
    obtain ⟨t, x, hV⟩ : ∃ t x, locV f = .iface t x := by
      unfold locV
      split
      · exact ⟨_, _, rfl⟩
      · split
        · exact ⟨_, _, rfl⟩
        · split <;> exact ⟨_, _, rfl⟩
    rw [hV] at HL
    clear hV hk
    go_enter Try.func13, Try.ntmps13
    go_wp2_with fail
    refine (HL.out _).mono ?_
    rintro e wn ⟨rfl, hb⟩
    go_wp2
    go_ret
    exact ⟨ret_int HK.out.symm, hB0.trans (hb.mono hB0.size)⟩

end Go.Proofs.Ytbghpkdkfbpmeaa

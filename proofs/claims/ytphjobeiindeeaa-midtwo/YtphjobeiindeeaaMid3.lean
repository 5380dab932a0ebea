/-
  Contracts of plaitingref11; plaitinglaw11's own helpers.
-/
import Derived.Test.YtphjobeiindeeaaMid2
namespace Go.Proofs.Ytphjobeiindeeaa
open Go.RowKit Plait
set_option maxRecDepth 100000
set_option linter.unusedVariables false

theorem rhalf_any (n : Int) (w : World) (h1 : -9223372036854775000 ≤ n) (h2 : n ≤ 9223372036854775000) : Calls Try.prog 18 #[.int .i64 n] w fun e w' => e = .returned (.int .i64 (n / 2)) ∧ w = w' := by
  by_cases h : n < 0
  · have d1 : decide (n < 0) = true := by simpa using h
    have e1 : n.tmod 2 = -((-n) % 2) := by
      rw [show n = -(-n) by omega, Int.neg_tmod, Int.tmod_eq_emod_of_nonneg (by omega)]; simp
    have e2 : n.tdiv 2 = -((-n) / 2) := by
      rw [show n = -(-n) by omega, Int.neg_tdiv, Int.tdiv_eq_ediv_of_nonneg (by omega)]; simp
    by_cases hz : (-n) % 2 = 0
    · have d2 : (n.tmod 2 != 0) = false := by rw [e1, hz]; simp
      have HF := Lib.hid (show n.tdiv 2 = n / 2 by omega)
      clear e1 e2 hz h
      go_enter Try.func18, Try.ntmps18
      go_wp2
      go_ret
      exact ⟨ret_int (by first | exact HF.out | (rw [← HF.out]; done)), rfl⟩
    · have d2 : (n.tmod 2 != 0) = true := by rw [e1]; simp; omega
      have HF := Lib.hid (show n.tdiv 2 - 1 = n / 2 by omega)
      have z1 : IntKind.i64.wrap (n.tdiv 2 - 1) = n.tdiv 2 - 1 := wrap_in _ (by omega) (by omega)
      clear e1 e2 hz h
      go_enter Try.func18, Try.ntmps18
      go_wp2
      go_ret
      exact ⟨ret_int HF.out, rfl⟩
  · have d1 : decide (n < 0) = false := by simpa using h
    have HF := Lib.hid (show n.tdiv 2 = n / 2 by rw [Int.tdiv_eq_ediv_of_nonneg (by omega)])
    clear h
    go_enter Try.func18, Try.ntmps18
    go_wp2
    go_ret
    exact ⟨ret_int HF.out, rfl⟩

theorem within11_any (a n : Int) (w : World) (hn : 0 < n) (hn2 : n ≤ 1099511627776) :
    Calls Try.prog 11 #[.int .i64 a, .int .i64 n] w fun e w' => e = .returned (.int .i64 (a % n)) ∧ w = w' := by
  have b1 : 0 ≤ a % n := Int.emod_nonneg _ (by omega)
  have b2 : a % n < n := Int.emod_lt_of_pos _ hn
  by_cases h0 : 0 ≤ a
  · go_enter Try.func11, Try.ntmps11
    go_wp2
    go_ret
    exact ⟨rfl, rfl⟩
  · have h1 : a.tmod n = -((-a) % n) := by
      rw [show a = -(-a) by omega, Int.neg_tmod, Int.tmod_eq_emod_of_nonneg (by omega)]; simp
    have c1 : 0 ≤ (-a) % n := Int.emod_nonneg _ (by omega)
    have c2 : (-a) % n < n := Int.emod_lt_of_pos _ hn
    by_cases hz : (-a) % n = 0
    · have h2 : a.tmod n = 0 := by rw [h1, hz]; rfl
      have HF := Lib.hid (show (0 : Int) = a % n by
        have : n ∣ -a := Int.dvd_of_emod_eq_zero hz
        exact (Int.emod_eq_zero_of_dvd (Int.dvd_neg.1 this)).symm)
      clear h1 hz c1 c2 b1 b2
      go_enter Try.func11, Try.ntmps11
      go_wp2
      go_ret
      exact ⟨ret_int HF.out, rfl⟩
    · obtain ⟨r, hr⟩ : ∃ r, r = (-a) % n := ⟨_, rfl⟩
      rw [← hr] at h1 c1 c2 hz
      have HF := Lib.hid (show -r + n = a % n by
        have e := Int.emod_add_mul_ediv (-a) n
        rw [← hr] at e
        have e2 : a = (-r + n) + n * (-((-a) / n) - 1) := by rw [Int.mul_sub, Int.mul_neg]; omega
        rw [e2, Int.add_mul_emod_self_left]
        exact (Int.emod_eq_of_lt (by omega) (by omega)).symm)
      clear hr b1 b2
      go_enter Try.func11, Try.ntmps11
      go_wp2
      go_ret
      exact ⟨ret_int HF.out, rfl⟩

theorem known11_any (w : World) : Calls Try.prog 9 #[] w fun e w' => e = .returned (.bool true) ∧ Below w.heap.size w w' := by
  have H1 := mid_any (some ⟨w.heap.size, 0, none⟩) [0, 1, 2, 100] 4 _ (Row.made w [0, 1, 2, 100] 3 (by decide) (by decide)) (by decide) (by decide)
  rw [show midR [0, 1, 2, 100] = (1, true) by decide +kernel] at H1
  have HM := Lib.hid H1
  have H2 := fun (W : World) => mid_any (some ⟨W.heap.size, 0, none⟩) [1, 2, 3] 3 _ (Row.made W [1, 2, 3] 3 (by decide) (by decide)) (by decide) (by decide)
  rw [show midR [1, 2, 3] = (0, false) by decide +kernel] at H2
  have HN := Lib.hid H2
  clear H1 H2
  go_enter Try.func9, Try.ntmps9
  go_wp2_with fail
  refine (HM.out).mono ?_
  rintro e wn ⟨rfl, hb⟩
  have hB := (alloc_below w _).trans (hb.mono (alloc_below w _).size)
  clear hb
  go_wp2_with fail
  refine (HN.out wn).mono ?_
  rintro e wm ⟨rfl, hb⟩
  have hb2 := (alloc_below wn _).trans (hb.mono (alloc_below wn _).size)
  have hB2 := hB.trans (hb2.mono hB.size)
  clear hb hb2
  go_wp2
  go_ret
  exact ⟨rfl, hB2⟩

/-- Numbers, brought within a span. -/
def someF (ns : List Int) (sp : Int) (i : Nat) : Int := ns.getD i 0 % (2 * sp + 1) - sp
def someI (ns : List Int) (sp : Int) : List Int := upTo (someF ns sp) (min ns.length 30)
theorem someF_in (ns : List Int) (sp : Int) (h : 0 ≤ sp) (i : Nat) : -sp ≤ someF ns sp i ∧ someF ns sp i ≤ sp := by
  unfold someF
  have h1 := Int.emod_nonneg (ns.getD i 0) (show 2 * sp + 1 ≠ 0 by omega)
  have h2 := Int.emod_lt_of_pos (ns.getD i 0) (show 0 < 2 * sp + 1 by omega)
  omega
theorem someI_in (ns : List Int) (sp : Int) (h : 0 ≤ sp) : ∀ z ∈ someI ns sp, -sp ≤ z ∧ z ≤ sp := by
  intro z hz
  obtain ⟨i, _, rfl⟩ := upTo_mem hz
  exact someF_in ns sp h i
theorem someI_len (ns : List Int) (sp : Int) : (someI ns sp).length ≤ 30 := by unfold someI; rw [upTo_len]; omega

set_option maxHeartbeats 1600000 in
theorem some11_any (a : Option Addr) (ns : List Int) (cap : Nat) (sp : Int) (w : World) (hrow : Row w a ns) (h0 : 0 ≤ sp) (h1 : sp ≤ 1099511627) :
    Calls Try.prog 10 #[.slice a ns.length cap, .int .i64 sp] w (OwnRet11 (someI ns sp) w) := by
  go_enter Try.func10, Try.ntmps10
  go_wp2
  go_loopw [5, 6] (fun v i w' => ∃ k : Nat, k ≤ min ns.length 30 ∧ i = .int .i64 k ∧ Below w.heap.size w w' ∧ OwnI w.heap.size w' v (upTo (someF ns sp) k)) (fun _ i _ => 31 - (intOf i).toNat)
  case atStart => exact ⟨0, Nat.zero_le _, rfl, Below.refl _ _, OwnI.nil _ _⟩
  case round =>
    obtain ⟨k, hk, rfl, hb, hown⟩ := hrel
    have hsz := hb.size
    obtain ⟨av, cv, rfl⟩ := hown.form
    by_cases hlt : k < ns.length
    · have d1 : decide (k < ns.length) = true := by simpa using hlt
      by_cases h30 : k < 30
      · have d2 : decide ((k : Int) < 30) = true := by simp; omega
        obtain ⟨b, off, rfl, hbl, hcell, hz1, hz2⟩ := (hrow.later hb).get k hlt
        have HS := Lib.hid (upTo_succ (someF ns sp) k)
        have hol := hown.lt
        have hLl : (upTo (someF ns sp) k).length ≤ 1000000 := by rw [upTo_len]; omega
        have hf := someF_in ns sp h0 k
        have HF := Lib.hid (show ns[k] % (2 * sp + 1) - sp = someF ns sp k by unfold someF; simp [hlt])
        rw [← HF.out] at hf
        generalize ns[k] = z at *
        generalize someF ns sp k = fk at *
        generalize upTo (someF ns sp) k = L at *
        have g0 : (0 : Int) ≤ (k : Int) := by omega
        have g1 : (k : Int) < (ns.length : Int) := by omega
        go_wp2_with fail
        refine (within11_any z _ _ (by omega) (by omega)).mono ?_
        rintro e wl ⟨rfl, rfl⟩
        generalize z % (2 * sp + 1) = r at *
        have r1 : -sp ≤ r - sp := by have := HF.out; omega
        have r2 : r - sp ≤ sp := by have := HF.out; omega
        go_wp2_with (at_builtin; refine wpList_app1 _ rfl _ _ rfl w.heap.size (.slice av L.length cv) L rfl (hown.later (alloc_below _ _)) wr.heap.size 1 (r - sp) rfl (heap_alloc_new _ _) (by omega) (by simp; omega) ?_; intro g cap' w2 h1' h2' h3' h4')
        have hG : ∀ g, (Value.slice av L.length cv).ownBlock = some g → w.heap.size ≤ g := fun g hg => (hol g hg).1
        go_roundw
        case rel =>
          refine ⟨k + 1, by omega, by go_num, below_grown (hb.alloc hb.size _) (by simp; omega) h2' hG, ?_⟩
          rw [HS.out, ← HF.out]
          exact h1'
        case measure => simp [intOf]; omega
      · have d2 : decide ((k : Int) < 30) = false := by simp; omega
        have HE := Lib.hid (show upTo (someF ns sp) k = someI ns sp by unfold someI; congr 1; omega)
        rw [HE.out] at hown
        go_wp2
        go_ret
        exact ⟨av, cv, by rw [HE.out]; rfl, hown, hb⟩
    · have d1 : decide (k < ns.length) = false := by simpa using hlt
      have HE := Lib.hid (show upTo (someF ns sp) k = someI ns sp by unfold someI; congr 1; omega)
      rw [HE.out] at hown
      go_wp2
      go_ret
      exact ⟨av, cv, by rw [HE.out]; rfl, hown, hb⟩

end Go.Proofs.Ytphjobeiindeeaa

/-
  MidAll's walk.
-/
import Derived.Test.YtphjobeiindeeaaMid5
import Derived.BigRegion
namespace Go.Proofs.Ytphjobeiindeeaa
open Go.RowKit Plait
set_option maxRecDepth 100000
set_option linter.unusedVariables false

/-- The same, at any number of numbers: in any order. -/
theorem midR_perm {l t : List Int} (h : t.Perm l) : midR t = midR l := by
  have hl := h.length_eq
  by_cases h4 : l.length < 4
  · rw [midR_few h4, midR_few (by omega)]
  · rw [midR_is (by omega), midR_is (by omega), midI_of (by omega) ((midI_is (l := l) (by omega)).perm h)]

def rotF (l : List Int) (j i : Nat) : Int := l.getD ((i + j) % l.length) 0

/-- The loop that turns about: of a row at at. -/
def TurnAt (T : List Int) (base : Nat) (w0 : World) (v i : Value) (W : World) : Prop :=
  ∃ (k : Nat) (ys : List Int), k ≤ T.length / 2 ∧ i = .int .i64 k ∧ ys.Perm T ∧ OwnI base W v ys ∧ Below base w0 W

set_option maxHeartbeats 6400000 in
theorem midAll_walk (a0 : Option Addr) (ns : List Int) (cap0 : Nat) (sp by_ : Int) (w : World) (r0 : Row w a0 ns) (x1 : -9223372036854775808 ≤ sp) (x2 : sp ≤ 9223372036854775807) (y1 : -9223372036854775808 ≤ by_) (y2 : by_ ≤ 9223372036854775807) :
    Calls Try.prog 3 #[.slice a0 ns.length cap0, .int .i64 sp, .int .i64 by_] w fun e w' => e = .returned (.bool true) ∧ Below w.heap.size w w' := by
  have hB : Below w.heap.size w w := Below.refl _ _
  go_enter Try.func3, Try.ntmps3
  go_wp2_with fail
  refine (known11_any _).mono ?_
  rintro e wn ⟨rfl, hb⟩
  replace hB := hB.trans (hb.mono hB.size)
  clear hb
  go_wp2_with fail
  refine (within11_any sp 1048576 _ (by omega) (by omega)).mono ?_
  rintro e wl ⟨rfl, rfl⟩
  have p0 := Int.emod_nonneg sp (show (1048576 : Int) ≠ 0 by omega)
  have p1 := Int.emod_lt_of_pos sp (show (0 : Int) < 1048576 by omega)
  generalize sp % 1048576 = s at *
  go_wp2_with fail
  refine (some11_any a0 ns cap0 (1 + s) _ (r0.later hB) (by omega) (by omega)).mono ?_
  rintro e wm ⟨al, cl, rfl, hown, hb⟩
  replace hB := hB.trans (hb.mono hB.size)
  clear hb
  have hin := someI_in ns (1 + s) (by omega)
  have hl30 := someI_len ns (1 + s)
  generalize someI ns (1 + s) = l at *
  have bl : ∀ z ∈ l, -1099511627776 ≤ z ∧ z ≤ 1099511627776 := fun z hz => by have := hin z hz; omega
  have hrl := hown.row (by omega) (fun z hz => by have := hin z hz; omega)
  clear hown
  go_wp2_with fail
  refine (mid_any _ l cl _ hrl (by omega) bl).mono ?_
  rintro e wq ⟨rfl, hb⟩
  replace hrl := hrl.later hb
  replace hB := hB.trans (hb.mono hB.size)
  clear hb
  go_wp2_with fail
  refine (rmid_any _ l cl _ hrl bl).mono ?_
  rintro e w0 ⟨rfl, hb⟩
  replace hrl := hrl.later hb
  replace hB := hB.trans (hb.mono hB.size)
  clear hb
  have HP := Lib.hid (fun (t : List Int) (h : t.Perm l) => midR_perm h)
  generalize hml : (midR l).1 = m1 at *
  generalize hml2 : (midR l).2 = m2 at *
  have HM1 := Lib.hid hml
  have HM2 := Lib.hid hml2
  clear hml hml2
  obtain ⟨j, hj⟩ : ∃ j : Nat, 0 < l.length → by_ % (l.length : Int) = j ∧ j < l.length := by
    refine ⟨(by_ % (l.length : Int)).toNat, fun h => ?_⟩
    have h1 := Int.emod_nonneg by_ (show (l.length : Int) ≠ 0 by omega)
    have h2 := Int.emod_lt_of_pos by_ (show (0 : Int) < l.length by omega)
    omega
  have HJ := Lib.hid hj
  clear hj
  go_wp2
  go_loopw [12, 13] (fun v i W => ∃ k : Nat, k ≤ l.length ∧ i = .int .i64 k ∧ Below w0.heap.size w0 W ∧ OwnI w0.heap.size W v (upTo (rotF l j) k)) (fun _ i _ => l.length - (intOf i).toNat)
  case atStart => exact ⟨0, Nat.zero_le _, rfl, Below.refl _ _, OwnI.nil _ _⟩
  case round =>
    obtain ⟨k, hk, rfl, hb, hown⟩ := hrel
    have hsz := hb.size
    obtain ⟨av, cv, rfl⟩ := hown.form
    by_cases hlt : k < l.length
    · have d1 : decide (k < l.length) = true := by simpa using hlt
      have n0 : (0 : Int) < (l.length : Int) := by omega
      obtain ⟨j1, j2⟩ := HJ.out (by omega)
      obtain ⟨jj, hjj⟩ : ∃ jj, jj = (k + j) % l.length := ⟨_, rfl⟩
      have hjl : jj < l.length := by rw [hjj]; exact Nat.mod_lt _ (by omega)
      have hjm : ((k : Int) + (j : Int)) % (l.length : Int) = (jj : Int) := by rw [hjj]; simp
      obtain ⟨b, off, rfl, hbl, hcell, hz1, hz2⟩ := (hrl.later hb).get jj hjl
      have HS := Lib.hid (show upTo (rotF l j) (k + 1) = upTo (rotF l j) k ++ [l[jj]] by rw [upTo_succ]; unfold rotF; rw [← hjj]; simp [hjl])
      have hol := hown.lt
      have hLl : (upTo (rotF l j) k).length ≤ 1000000 := by rw [upTo_len]; omega
      have hk2 : k + 1 ≤ l.length := hlt
      generalize l[jj] = z at *
      generalize upTo (rotF l j) k = L at *
      have g0 : (0 : Int) ≤ (jj : Int) := by omega
      have g1 : (jj : Int) < (l.length : Int) := by omega
      have g2 : (0 : Int) ≤ (k : Int) + (j : Int) := by omega
      clear hjj
      go_wp2_with fail
      refine (within11_any by_ (l.length : Int) _ (by omega) (by omega)).mono ?_
      rintro e wl ⟨rfl, rfl⟩
      rw [j1]
      clear j1
      go_wp2_with (at_builtin; refine wpList_app1 _ rfl _ _ rfl w0.heap.size (.slice av L.length cv) L rfl (hown.later (alloc_below _ _)) wr.heap.size 1 z rfl (heap_alloc_new _ _) (by omega) (by simp; omega) ?_; intro g cap' w2 h1' h2' h3' h4')
      have hG : ∀ g, (Value.slice av L.length cv).ownBlock = some g → w0.heap.size ≤ g := fun g hg => (hol g hg).1
      go_roundw
      case rel =>
        refine ⟨k + 1, by omega, by go_num, below_grown (hb.alloc hb.size _) (by simp; omega) h2' hG, ?_⟩
        rw [HS.out]
        exact h1'
      case measure => simp [intOf]; omega
    · have d1 : decide (k < l.length) = false := by simpa using hlt
      obtain rfl : k = l.length := by omega
      have hTl : (upTo (rotF l j) l.length).length = l.length := upTo_len _ _
      have hTp : (upTo (rotF l j) l.length).Perm l := by
        by_cases h0 : 0 < l.length
        · exact rot_perm l j (HJ.out h0).2
        · have : l = [] := List.eq_nil_of_length_eq_zero (by omega)
          subst this
          exact List.Perm.refl _
      generalize upTo (rotF l j) l.length = T at *
      have HTl := Lib.hid hTl
      have HTp := Lib.hid hTp
      have hT30 : T.length ≤ 30 := by omega
      clear hTl hTp
      go_wp2
      go_loopw [14] (fun i W => TurnAt T w0.heap.size w0 (.slice av T.length cv) i W) (fun i _ => T.length - (intOf i).toNat)
      case atStart => exact ⟨0, T, Nat.zero_le _, rfl, List.Perm.refl _, hown, hb⟩
      case round =>
        clear hown hb hsz
        obtain ⟨k, ys, hk2, rfl, hyp, hown, hb⟩ := hrel
        have hsz := hb.size
        have hyl : ys.length = T.length := hyp.length_eq
        by_cases hlt2 : k < T.length / 2
        · have d2 : decide (k < T.length / 2) = true := by simpa using hlt2
          have d3 : decide ((k : Int) < (T.length : Int) / 2) = true := by simp; omega
          obtain ⟨m9, hm9⟩ : ∃ m9 : Nat, m9 = T.length - 1 - k := ⟨_, rfl⟩
          have e1 : (T.length : Int) - 1 - (k : Int) = (m9 : Int) := by omega
          have k1 : k < ys.length := by omega
          have k2 : m9 < ys.length := by omega
          have k3 : k ≠ m9 := by omega
          have hown2 : OwnI w0.heap.size wr (.slice av ys.length cv) ys := by rw [hyl]; exact hown
          obtain ⟨g, rfl, hg0, hg1, hcs, hfs⟩ := hown2.at (by omega)
          have c1 := hcs k k1
          have c2 := hcs m9 k2
          have f1 := hfs k
          have f2 := hfs m9
          have HO := Lib.hid hown2
          have HSw := Lib.hid ((swap_perm ys k m9 k1 k2).trans hyp)
          have HY := Lib.hid hyl
          have z1 : IntKind.i64.wrap ((T.length : Int) - 1) = (T.length : Int) - 1 := wrap_in _ (by omega) (by omega)
          have z2 : IntKind.i64.wrap ((T.length : Int) - 1 - (k : Int)) = (m9 : Int) := by rw [e1]; exact wrap_in _ (by omega) (by omega)
          have g0 : (0 : Int) ≤ (k : Int) := by omega
          have g1 : (k : Int) < (T.length : Int) := by omega
          have g2 : (0 : Int) ≤ (m9 : Int) := by omega
          have g3 : (m9 : Int) < (T.length : Int) := by omega
          have hm8 : k + 1 ≤ T.length / 2 := hlt2
          obtain ⟨u1, hu1⟩ : ∃ u1, u1 = ys[k] := ⟨_, rfl⟩
          obtain ⟨u2, hu2⟩ : ∃ u2, u2 = ys[m9] := ⟨_, rfl⟩
          rw [← hu1] at c1 HSw
          rw [← hu2] at c2 HSw
          have HF1 : OwnI w0.heap.size ((wr.drew.setCell ⟨g, k, none⟩ (.int .i64 u2)).setCell ⟨g, m9, none⟩ (.int .i64 u1)) (.slice (some ⟨g, 0, none⟩) T.length cv) ((ys.set k u2).set m9 u1) := by
            have h := (OwnI.put (W := wr.drew) (HO.out.later (Below.refl _ _).drew) k k1 u2).put m9 (by simpa using k2) u1
            rw [show ((ys.set k u2).set m9 u1).length = T.length by simp [hyl]] at h
            exact h
          have hb2 : Below w0.heap.size w0 ((wr.drew.setCell ⟨g, k, none⟩ (.int .i64 u2)).setCell ⟨g, m9, none⟩ (.int .i64 u1)) := (hb.drew.setCell (p := ⟨g, k, none⟩) hg0 _).setCell (p := ⟨g, m9, none⟩) hg0 _
          have HFF := Lib.hid HF1
          have HBB := Lib.hid hb2
          clear hown hown2 hcs hfs hyp hyl hu1 hu2 HF1 hb2 hm9 e1
          go_wp2
          go_region
          all_goals
            go_wp2
            go_roundw
            case rel => exact ⟨k + 1, (ys.set k u2).set m9 u1, by omega, by go_num, HSw.out, HFF.out, HBB.out⟩
            case measure => simp [intOf]; omega
        · have d2 : decide (k < T.length / 2) = false := by simpa using hlt2
          have d3 : decide ((k : Int) < (T.length : Int) / 2) = false := by simp; omega
          have hperm := hyp.trans HTp.out
          have hrt := hown.row (by omega) (fun z hz => by have := bl z (hperm.mem_iff.1 hz); omega)
          have HMT := mid_any av ys cv wr hrt (by omega) (fun z hz => bl z (hperm.mem_iff.1 hz))
          rw [hyl, HP.out ys hperm, HM1.out, HM2.out] at HMT
          have HH := Lib.hid HMT
          have hBe := hB.trans (hb.mono hB.size)
          clear HMT hrt hperm hyp hyl hown
          go_wp2_with fail
          refine (HH.out).mono ?_
          rintro e w7 ⟨rfl, hb7⟩
          replace hBe := hBe.trans (hb7.mono hBe.size)
          clear hb7
          cases m2 <;> (go_wp2; go_ret; exact ⟨rfl, hBe⟩)

end Go.Proofs.Ytphjobeiindeeaa

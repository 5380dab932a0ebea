/-
  MidBetween's walk.
-/
import Derived.Test.YtphjobeiindeeaaMid5
namespace Go.Proofs.Ytphjobeiindeeaa
open Go.RowKit Plait
set_option maxRecDepth 100000
set_option linter.unusedVariables false

/-- The loop. -/
def BetwAt (l : List Int) (m d : Int) (w0 : World) (t u below above i : Value) (W : World) : Prop :=
  ∃ k : Nat, k ≤ l.length ∧ i = .int .i64 k ∧ below = .int .i64 (nLe (l.take k) m : Nat) ∧ above = .int .i64 (nGe (l.take k) m : Nat) ∧ PairO w0.heap.size w0 (upTo (fun i => l.getD i 0 + d) k) (upTo (fun i => 0 - l.getD i 0) k) t u W


set_option maxHeartbeats 6400000 in
theorem midBetween_walk (a0 : Option Addr) (ns : List Int) (cap0 : Nat) (dd : Int) (w : World) (r0 : Row w a0 ns) (x1 : -9223372036854775808 ≤ dd) (x2 : dd ≤ 9223372036854775807) :
    Calls Try.prog 4 #[.slice a0 ns.length cap0, .int .i64 dd] w fun e w' => e = .returned (.bool true) ∧ Below w.heap.size w w' := by
  have hB : Below w.heap.size w w := Below.refl _ _
  go_enter Try.func4, Try.ntmps4
  go_wp2_with fail
  refine (known11_any _).mono ?_
  rintro e wn ⟨rfl, hb⟩
  replace hB := hB.trans (hb.mono hB.size)
  clear hb
  go_wp2_with fail
  refine (some11_any a0 ns cap0 1000000 _ (r0.later hB) (by omega) (by omega)).mono ?_
  rintro e wm ⟨al, cl, rfl, hown, hb⟩
  replace hB := hB.trans (hb.mono hB.size)
  clear hb
  have hin := someI_in ns 1000000 (by omega)
  have hl30 := someI_len ns 1000000
  generalize someI ns 1000000 = l at *
  by_cases h4 : l.length < 4
  · have d1 : decide ((l.length : Int) < 4) = true := by simp; omega
    go_wp2
    go_ret
    exact ⟨rfl, hB⟩
  have d1 : decide ((l.length : Int) < 4) = false := by simp; omega
  have hrl := hown.row (by omega) (fun z hz => by have := hin z hz; omega)
  obtain ⟨g, rfl, hg0, hg1, hcs, -⟩ := hown.at (by omega)
  clear hown hcs
  go_wp2_with fail
  refine (within11_any dd 1000000 _ (by omega) (by omega)).mono ?_
  rintro e wl ⟨rfl, rfl⟩
  have y0 := Int.emod_nonneg dd (show (1000000 : Int) ≠ 0 by omega)
  have y1 := Int.emod_lt_of_pos dd (show (0 : Int) < 1000000 by omega)
  generalize dd % 1000000 = d at *
  go_wp2_with fail
  refine (mid_any _ l cl _ hrl (by omega) (fun z hz => by have := hin z hz; omega)).mono ?_
  rintro e w0 ⟨rfl, hb⟩
  rw [midR_is (by omega)]
  replace hrl := hrl.later hb
  replace hB := hB.trans (hb.mono hB.size)
  have HON := Lib.hid (mid_on l d (by omega))
  have HNG := Lib.hid (mid_neg l (by omega))
  have HCT := Lib.hid (mid_counts l (by omega))
  have him : -1000000 ≤ midI l ∧ midI l ≤ 1000000 := by
    have h1 := mid_counts l (by omega)
    obtain ⟨u, hu, q⟩ := nLe_mem (show 1 ≤ nLe l (midI l) by omega)
    obtain ⟨v, hv, r⟩ := nGe_mem (show 1 ≤ nGe l (midI l) by omega)
    have := hin u hu
    have := hin v hv
    omega
  generalize midI l = m at *
  clear hb
  go_wp2
  go_loopw [8, 9, 10, 11, 12] (fun t u b a i W => BetwAt l m d w0 t u b a i W) (fun _ _ _ _ i _ => l.length - (intOf i).toNat)
  case atStart => exact ⟨0, Nat.zero_le _, rfl, rfl, rfl, PairO.start _⟩
  case round =>
    obtain ⟨k, hk, rfl, rfl, rfl, hp⟩ := hrel
    by_cases hlt : k < l.length
    · have d2 : decide (k < l.length) = true := by simpa using hlt
      obtain ⟨b, off, e7, hbl, hcell, hz1, hz2⟩ := (hrl.later hp.hB).get k hlt
      obtain ⟨rfl, rfl⟩ : g = b ∧ 0 = off := by injection e7 with e; injection e with e1 e2; exact ⟨e1, e2⟩
      rw [Nat.zero_add] at hcell
      have HC := Lib.hid (show ∀ W, Below w0.heap.size w0 W → W.cell? ⟨g, k, none⟩ = some (.int .i64 l[k]) from fun W hb => by
        obtain ⟨b, off, e7, hbl, hcell, hz1, hz2⟩ := (hrl.later hb).get k hlt
        obtain ⟨rfl, rfl⟩ : g = b ∧ 0 = off := by injection e7 with e; injection e with e1 e2; exact ⟨e1, e2⟩
        rw [Nat.zero_add] at hcell
        exact hcell)
      clear e7
      have HLe := Lib.hid (nLe_take hlt m)
      have HGe := Lib.hid (nGe_take hlt m)
      have HS1 := Lib.hid (show upTo (fun i => l.getD i 0 + d) (k + 1) = upTo (fun i => l.getD i 0 + d) k ++ [l[k] + d] by rw [upTo_succ]; simp [hlt])
      have HS2 := Lib.hid (show upTo (fun i => 0 - l.getD i 0) (k + 1) = upTo (fun i => 0 - l.getD i 0) k ++ [0 - l[k]] by rw [upTo_succ]; simp [hlt])
      have iv := hin l[k] (List.getElem_mem hlt)
      have hk2 : k + 1 ≤ l.length := hlt
      have hc1 := nLe_len (l.take k) m
      have hc2 := nGe_len (l.take k) m
      rw [List.length_take] at hc1 hc2
      generalize l[k] = v at *
      have hA : (upTo (fun i => l.getD i 0 + d) k).length ≤ 1000000 := by rw [upTo_len]; omega
      have hD : (upTo (fun i => 0 - l.getD i 0) k).length ≤ 1000000 := by rw [upTo_len]; omega
      generalize upTo (fun i => l.getD i 0 + d) k = A at *
      generalize upTo (fun i => 0 - l.getD i 0) k = D at *
      generalize nLe (l.take k) m = nb at *
      generalize nGe (l.take k) m = na at *
      obtain ⟨av, cv, rfl⟩ := hp.ov.form
      obtain ⟨au, cu, rfl⟩ := hp.ou.form
      have HP := Lib.hid hp
      have HOL := Lib.hid hp.ov.lt
      have hwr := hp.hB.size
      have gw0 : g < w0.heap.size := by
        have := hrl.2.2
        rcases this with e | ⟨b, off, e, hlt, _⟩
        · rw [e] at h4; simp at h4
        · injection e with e; injection e with e1 e2; omega
      have g0 : (0 : Int) ≤ (k : Int) := by omega
      have g1 : (k : Int) < (l.length : Int) := by omega
      have z1 : IntKind.i64.wrap (v + d) = v + d := wrap_in _ (by omega) (by omega)
      have z2 : IntKind.i64.wrap (0 - v) = 0 - v := wrap_in _ (by omega) (by omega)
      have z3 : IntKind.i64.wrap (-v) = -v := wrap_in _ (by omega) (by omega)
      clear hp
      go_upto_region 13 with fail
      go_region_law (first
        | (refine step_app1 _ (by rfl) (.tmp 37) (.tmp 44) (by rfl) w0.heap.size (.slice av A.length cv) A rfl ((HP.out.later (by first | exact below_one _ _ | exact below_two _ _ _)).ov) _ 1 _ rfl (by first | exact heap_alloc_new _ _ | exact heap_first _ _ _ | exact heap_second _ _ _) (by omega) (Nat.le_trans HP.out.bs (HP.out.later (by first | exact below_one _ _ | exact below_two _ _ _)).hB.size) ?_
           intro g5 cap5 w5 ho5 hg5 hgg5 hgl5
           have hP5 := PairO.left (HP.out.later (by first | exact below_one _ _ | exact below_two _ _ _)) ho5 hg5 rfl hgg5
           have hpre := fun (H : Nat) (cs : Array Value) (t : TypeId) (hb : Blk _ H t cs) (hH : wr.heap.size ≤ H) => Blk.grown hb hg5 (fun e => by have := (HOL.out _ e.symm).2; omega)
           have t7 := HC.out _ hP5.hB
           have t8 := fun (o : Obj) => HC.out _ (hP5.later (alloc_below w5 o)).hB)
        | (refine step_app1 _ (by rfl) (.tmp 46) (.tmp 52) (by rfl) w0.heap.size (.slice au D.length cu) D rfl (by first | exact hP5.ou | exact hP5.ou.later (alloc_below _ _)) _ 1 _ rfl (by first | exact heap_alloc_new _ _ | exact hpre _ _ _ (heap_second _ _ _) (Nat.le_succ _) | exact hpre _ _ _ (heap_first _ _ _) (Nat.le_refl _)) (by omega) (by first | exact Nat.le_trans hP5.bs hP5.hB.size | exact Nat.le_trans (Nat.le_trans hP5.bs hP5.hB.size) (alloc_below _ _).size) ?_
           intro g6 cap6 w6 ho6 hg6 hgg6 hgl6
           have hfin := PairO.right (by first | exact hP5 | exact hP5.later (alloc_below _ _)) ho6 hg6 rfl hgg6
           have t9 := HC.out _ hfin.hB))
      all_goals
        by_cases q1 : v ≤ m
        · have d4 : decide (v ≤ m) = true := by simpa using q1
          rw [if_pos q1] at HLe
          by_cases q2 : m ≤ v
          · have d5 : decide (m ≤ v) = true := by simpa using q2
            rw [if_pos q2] at HGe
            clear q1 q2
            go_wp2
            go_roundw
            case rel => exact ⟨k + 1, by omega, by go_num, by first | (rw [HLe.out]; first | rfl | (congr 1; omega)) | trivial, by first | (rw [HGe.out]; first | rfl | (congr 1; omega)) | trivial, by rw [HS1.out, HS2.out]; first | exact hfin | (simpa using hfin)⟩
            case measure => simp [intOf]; omega
          · have d5 : decide (m ≤ v) = false := by simpa using q2
            rw [if_neg q2] at HGe
            clear q1 q2
            go_wp2
            go_roundw
            case rel => exact ⟨k + 1, by omega, by go_num, by first | (rw [HLe.out]; first | rfl | (congr 1; omega)) | trivial, by first | (rw [HGe.out]; first | rfl | (congr 1; omega)) | trivial, by rw [HS1.out, HS2.out]; first | exact hfin | (simpa using hfin)⟩
            case measure => simp [intOf]; omega
        · have d4 : decide (v ≤ m) = false := by simpa using q1
          rw [if_neg q1] at HLe
          by_cases q2 : m ≤ v
          · have d5 : decide (m ≤ v) = true := by simpa using q2
            rw [if_pos q2] at HGe
            clear q1 q2
            go_wp2
            go_roundw
            case rel => exact ⟨k + 1, by omega, by go_num, by first | (rw [HLe.out]; first | rfl | (congr 1; omega)) | trivial, by first | (rw [HGe.out]; first | rfl | (congr 1; omega)) | trivial, by rw [HS1.out, HS2.out]; first | exact hfin | (simpa using hfin)⟩
            case measure => simp [intOf]; omega
          · have d5 : decide (m ≤ v) = false := by simpa using q2
            rw [if_neg q2] at HGe
            clear q1 q2
            go_wp2
            go_roundw
            case rel => exact ⟨k + 1, by omega, by go_num, by first | (rw [HLe.out]; first | rfl | (congr 1; omega)) | trivial, by first | (rw [HGe.out]; first | rfl | (congr 1; omega)) | trivial, by rw [HS1.out, HS2.out]; first | exact hfin | (simpa using hfin)⟩
            case measure => simp [intOf]; omega
    · have d2 : decide (k < l.length) = false := by simpa using hlt
      obtain rfl : k = l.length := by omega
      rw [List.take_of_length_le (Nat.le_refl _)]
      obtain ⟨c1, c2⟩ := HCT.out
      have hc1 := nLe_len l m
      have hc2 := nGe_len l m
      generalize nLe l m = nb at *
      generalize nGe l m = na at *
      have d3 : decide ((2 : Int) ≤ (nb : Int)) = true := by simp; omega
      have d4 : decide ((1 : Int) ≤ (na : Int)) = true := by simp; omega
      obtain ⟨av, cv, rfl⟩ := hp.ov.form
      obtain ⟨au, cu, rfl⟩ := hp.ou.form
      have lA : (upTo (fun i => l.getD i 0 + d) l.length).length = l.length := upTo_len _ _
      have lD : (upTo (fun i => 0 - l.getD i 0) l.length).length = l.length := upTo_len _ _
      have bl : ∀ i, i < l.length → -1000000 ≤ l.getD i 0 ∧ l.getD i 0 ≤ 1000000 := fun i hi => by
        have : l.getD i 0 ∈ l := by simp [hi]
        exact hin _ this
      have bA : ∀ z ∈ upTo (fun i => l.getD i 0 + d) l.length, -1099511627776 ≤ z ∧ z ≤ 1099511627776 := by
        intro z hz
        obtain ⟨i, hi, rfl⟩ := upTo_mem hz
        have := bl i hi
        omega
      have bD : ∀ z ∈ upTo (fun i => 0 - l.getD i 0) l.length, -1099511627776 ≤ z ∧ z ≤ 1099511627776 := by
        intro z hz
        obtain ⟨i, hi, rfl⟩ := upTo_mem hz
        have := bl i hi
        omega
      generalize upTo (fun i => l.getD i 0 + d) l.length = A at *
      generalize upTo (fun i => 0 - l.getD i 0) l.length = D at *
      have hrA := hp.ov.row (by omega) (fun z hz => by have := bA z hz; omega)
      have hrD := hp.ou.row (by omega) (fun z hz => by have := bD z hz; omega)
      have hBe := hB.trans (hp.hB.mono hB.size)
      have LA := Lib.hid lA
      have LD := Lib.hid lD
      clear hp lA lD
      go_wp2_with fail
      refine (mid_any av A cv _ hrA (by rw [LA.out]; omega) bA).mono ?_
      rintro e w7 ⟨rfl, hb7⟩
      rw [midR_is (by rw [LA.out]; omega), HON.out]
      replace hBe := hBe.trans (hb7.mono hBe.size)
      replace hrD := hrD.later hb7
      clear hb7
      go_wp2_with fail
      refine (mid_any au D cu _ hrD (by rw [LD.out]; omega) bD).mono ?_
      rintro e w8 ⟨rfl, hb8⟩
      rw [midR_is (by rw [LD.out]; omega)]
      replace hBe := hBe.trans (hb8.mono hBe.size)
      clear hb8
      rcases HNG.out with e | e
      · rw [e]
        go_wp2
        go_ret
        exact ⟨rfl, hBe⟩
      · rw [e]
        have d6 : ((0 - m - 1 : Int) == 0 - m) = false := by rw [beq_eq_false_iff_ne]; omega
        have d7 : ((-m - 1 : Int) == -m) = false := by rw [beq_eq_false_iff_ne]; omega
        go_wp2
        go_ret
        exact ⟨rfl, hBe⟩

end Go.Proofs.Ytphjobeiindeeaa

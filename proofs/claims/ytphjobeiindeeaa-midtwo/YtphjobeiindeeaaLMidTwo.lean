/-
  MidTwo's walk.
-/
import Derived.Test.YtphjobeiindeeaaMid5
namespace Go.Proofs.Ytphjobeiindeeaa
open Go.RowKit Plait
set_option maxRecDepth 100000
set_option linter.unusedVariables false

/-- An error in reading. -/
def errI (es : List Int) (e : Int) (i : Nat) : Int := if i < es.length then es.getD i 0 % (2 * e + 1) - e else 0
theorem errI_in (es : List Int) (e : Int) (h : 0 ≤ e) (i : Nat) : -e ≤ errI es e i ∧ errI es e i ≤ e := by
  unfold errI
  have h1 := Int.emod_nonneg (es.getD i 0) (show 2 * e + 1 ≠ 0 by omega)
  have h2 := Int.emod_lt_of_pos (es.getD i 0) (show 0 < 2 * e + 1 by omega)
  split <;> omega
/-- The loop. -/
def TwoAt (l es fs : List Int) (e : Int) (w0 : World) (a z t u i : Value) (W : World) : Prop :=
  ∃ (k : Nat) (p q : Int), k ≤ l.length ∧ i = .int .i64 k ∧ a = .int .i64 p ∧ z = .int .i64 q ∧ (∀ v ∈ l.take k, p ≤ v ∧ v ≤ q) ∧ -500 ≤ p ∧ p ≤ 500 ∧ -500 ≤ q ∧ q ≤ 500 ∧
    PairO w0.heap.size w0 (upTo (fun i => l.getD i 0 + errI es e i) k) (upTo (fun i => l.getD i 0 + errI fs e i) k) t u W


set_option maxHeartbeats 6400000 in
theorem midTwo_walk (a0 : Option Addr) (ns : List Int) (cap0 : Nat) (a1 : Option Addr) (es : List Int) (cap1 : Nat) (a2 : Option Addr) (fs : List Int) (cap2 : Nat) (x y ez : Int) (w : World) (r0 : Row w a0 ns) (re : Row w a1 es) (rf : Row w a2 fs)
    (x1 : -9223372036854775808 ≤ x) (x2 : x ≤ 9223372036854775807) (y1 : -9223372036854775808 ≤ y) (y2 : y ≤ 9223372036854775807) (e1 : -9223372036854775808 ≤ ez) (e2 : ez ≤ 9223372036854775807) :
    Calls Try.prog 6 #[.slice a0 ns.length cap0, .slice a1 es.length cap1, .slice a2 fs.length cap2, .int .i64 x, .int .i64 y, .int .i64 ez] w fun e w' => e = .returned (.bool true) ∧ Below w.heap.size w w' := by
  have hB : Below w.heap.size w w := Below.refl _ _
  go_enter Try.func6, Try.ntmps6
  go_wp2_with fail
  refine (known11_any _).mono ?_
  rintro e wn ⟨rfl, hb⟩
  replace hB := hB.trans (hb.mono hB.size)
  clear hb
  go_wp2_with fail
  refine (some11_any a0 ns cap0 500 _ (r0.later hB) (by omega) (by omega)).mono ?_
  rintro e w0 ⟨al, cl, rfl, hown, hb⟩
  replace hB := hB.trans (hb.mono hB.size)
  clear hb
  have hin := someI_in ns 500 (by omega)
  have hl30 := someI_len ns 500
  generalize someI ns 500 = l at *
  by_cases h4 : l.length < 4
  · have d1 : decide ((l.length : Int) < 4) = true := by simp; omega
    go_wp2
    go_ret
    exact ⟨rfl, hB⟩
  have d1 : decide ((l.length : Int) < 4) = false := by simp; omega
  have hrl := hown.row (by omega) (fun z hz => by have := hin z hz; omega)
  obtain ⟨g, rfl, hg0, hg1, hcs, -⟩ := hown.at (by omega)
  clear hown
  go_wp2_with fail
  refine (within11_any ez 50 _ (by omega) (by omega)).mono ?_
  rintro e wl ⟨rfl, rfl⟩
  obtain ⟨ee, he⟩ : ∃ ee, ee = ez % 50 := ⟨_, rfl⟩
  have ee0 : 0 ≤ ee := by omega
  have ee1 : ee < 50 := by omega
  rw [← he]
  clear he
  have c0 := hcs 0 (by omega)
  have i0 := hin l[0] (List.getElem_mem (by omega))
  have g0 : (0 : Int) < (l.length : Int) := by omega
  generalize hl0 : l[0]'(by omega) = v0 at *
  clear hl0 hcs
  have HTW := Lib.hid (fun (p q : Int) (s r : Int) (h1 : ∀ v ∈ l, p ≤ v) (h2 : ∀ v ∈ l, v ≤ q) => mid_two l (errI es ee) (errI fs ee) s r ee p q (by omega) h1 h2 (errI_in es ee ee0) (errI_in fs ee ee0))
  have HTX := Lib.hid (fun (p q : Int) (s r : Int) (h1 : ∀ v ∈ l, p ≤ v) (h2 : ∀ v ∈ l, v ≤ q) => mid_two l (errI fs ee) (errI es ee) s r ee p q (by omega) h1 h2 (errI_in fs ee ee0) (errI_in es ee ee0))
  have HB0 := Lib.hid hB
  go_wp2
  go_quiet (fail)
  go_wp2
  go_loopw [14, 15, 16, 17, 18, 19, 20] (fun a z t u i _ _ W => TwoAt l es fs ee w0 a z t u i W) (fun _ _ _ _ i _ _ _ => l.length - (intOf i).toNat)
  case atStart => exact ⟨0, v0, v0, Nat.zero_le _, rfl, rfl, rfl, by simp, i0.1, i0.2, i0.1, i0.2, (PairO.start _).later (below_drewN (Below.refl _ _) _)⟩
  case round =>
    clear c0 i0 g0 hB
    obtain ⟨k, p, q, hk, rfl, rfl, rfl, hpq, p1, p2, p3, p4, hp⟩ := hrel
    by_cases hlt : k < l.length
    · have d2 : decide (k < l.length) = true := by simpa using hlt
      obtain ⟨b, off, e7, hbl, hcell, hz1, hz2⟩ := (hrl.later hp.hB).get k hlt
      obtain ⟨rfl, rfl⟩ : g = b ∧ 0 = off := by injection e7 with e; injection e with e1 e2; exact ⟨e1, e2⟩
      rw [Nat.zero_add] at hcell
      have HC := Lib.hid (show ∀ W, Below w0.heap.size w0 W → W.cell? ⟨g, k, none⟩ = some (.int .i64 l[k]) from fun W hb => by
        obtain ⟨b, off, e7, hbl, hcell, hz1, hz2⟩ := (hrl.later hb).get k hlt
        obtain ⟨rfl, rfl⟩ : g = b ∧ 0 = off := by injection e7 with e; injection e with e1 e2; exact ⟨e1, e2⟩
        rw [Nat.zero_add] at hcell
        exact hcell)
      clear e7
      have HN := Lib.hid (ends_next hlt hpq)
      have HS1 := Lib.hid (show upTo (fun i => l.getD i 0 + errI es ee i) (k + 1) = upTo (fun i => l.getD i 0 + errI es ee i) k ++ [l[k] + errI es ee k] by rw [upTo_succ]; simp [hlt])
      have HS2 := Lib.hid (show upTo (fun i => l.getD i 0 + errI fs ee i) (k + 1) = upTo (fun i => l.getD i 0 + errI fs ee i) k ++ [l[k] + errI fs ee k] by rw [upTo_succ]; simp [hlt])
      have iv := hin l[k] (List.getElem_mem hlt)
      have hk2 : k + 1 ≤ l.length := hlt
      have b1 := errI_in es ee ee0 k
      have b2 := errI_in fs ee ee0 k
      generalize l[k] = v at *
      have hA : (upTo (fun i => l.getD i 0 + errI es ee i) k).length ≤ 1000000 := by rw [upTo_len]; omega
      have hD : (upTo (fun i => l.getD i 0 + errI fs ee i) k).length ≤ 1000000 := by rw [upTo_len]; omega
      generalize upTo (fun i => l.getD i 0 + errI es ee i) k = A at *
      generalize upTo (fun i => l.getD i 0 + errI fs ee i) k = D at *
      obtain ⟨av, cv, rfl⟩ := hp.ov.form
      obtain ⟨au, cu, rfl⟩ := hp.ou.form
      obtain ⟨s, hs⟩ : ∃ s, errI es ee k = s := ⟨_, rfl⟩
      obtain ⟨r, hr⟩ : ∃ r, errI fs ee k = r := ⟨_, rfl⟩
      have HZs := Lib.hid hs
      have HZr := Lib.hid hr
      rw [hs] at HS1 b1
      rw [hr] at HS2 b2
      clear hs hr hpq
      have g0 : (0 : Int) ≤ (k : Int) := by omega
      have g1 : (k : Int) < (l.length : Int) := by omega
      go_wp2
      go_region
      replace hp := hp.later (Below.refl _ _).drew
      have HZE := HZs
      go_upto_if 61 with fail
      go_cut [19] (fun s9 wx => s9 = .int .i64 s ∧ PairO w0.heap.size w0 A D (.slice av A.length cv) (.slice au D.length cu) wx)
      case first =>
        by_cases q5 : k < es.length
        · have d5 : decide (k < es.length) = true := by simpa using q5
          have d6 : decide ((k : Int) < (es.length : Int)) = true := by simp; omega
          obtain ⟨b6, off6, rfl, hbl6, hcell6, u6, v6⟩ := (re.later (HB0.out.trans (hp.hB.mono HB0.out.size))).get k q5
          have HZ := Lib.hid (show es[k] % (2 * ee + 1) - ee = errI es ee k by unfold errI; rw [if_pos q5]; simp [q5])
          have g3 : (k : Int) < (es.length : Int) := by omega
          generalize es[k] = y6 at *
          have y7 := Int.emod_nonneg y6 (show 2 * ee + 1 ≠ 0 by omega)
          have y8 := Int.emod_lt_of_pos y6 (show 0 < 2 * ee + 1 by omega)
          clear q5
          go_simp
          go_wp2_with (go_at_call 11; refine (within11_any y6 (2 * ee + 1) _ (by omega) (by omega)).mono ?_; rintro e wl ⟨rfl, rfl⟩)
          go_meet
          exact ⟨by rw [← HZE.out, ← HZ.out], hp⟩
        · have d5 : decide (k < es.length) = false := by simpa using q5
          have d6 : decide ((k : Int) < (es.length : Int)) = false := by simp; omega
          have HZ := Lib.hid (show 0 = errI es ee k by unfold errI; rw [if_neg q5])
          clear q5
          go_simp
          go_wp2_with fail
          go_meet
          exact ⟨by rw [← HZE.out, ← HZ.out], hp⟩
      case rest =>
        clear hp
        obtain ⟨rfl, hp⟩ := hcut
        have HZE := HZr
        go_upto_if 75 with fail
        go_cut [20] (fun s9 wx => s9 = .int .i64 r ∧ PairO w0.heap.size w0 A D (.slice av A.length cv) (.slice au D.length cu) wx)
        case first =>
          by_cases q5 : k < fs.length
          · have d5 : decide (k < fs.length) = true := by simpa using q5
            have d6 : decide ((k : Int) < (fs.length : Int)) = true := by simp; omega
            obtain ⟨b6, off6, rfl, hbl6, hcell6, u6, v6⟩ := (rf.later (HB0.out.trans (hp.hB.mono HB0.out.size))).get k q5
            have HZ := Lib.hid (show fs[k] % (2 * ee + 1) - ee = errI fs ee k by unfold errI; rw [if_pos q5]; simp [q5])
            have g3 : (k : Int) < (fs.length : Int) := by omega
            generalize fs[k] = y6 at *
            have y7 := Int.emod_nonneg y6 (show 2 * ee + 1 ≠ 0 by omega)
            have y8 := Int.emod_lt_of_pos y6 (show 0 < 2 * ee + 1 by omega)
            clear q5
            go_simp
            go_wp2_with (go_at_call 11; refine (within11_any y6 (2 * ee + 1) _ (by omega) (by omega)).mono ?_; rintro e wl ⟨rfl, rfl⟩)
            go_meet
            exact ⟨by rw [← HZE.out, ← HZ.out], hp⟩
          · have d5 : decide (k < fs.length) = false := by simpa using q5
            have d6 : decide ((k : Int) < (fs.length : Int)) = false := by simp; omega
            have HZ := Lib.hid (show 0 = errI fs ee k by unfold errI; rw [if_neg q5])
            clear q5
            go_simp
            go_wp2_with fail
            go_meet
            exact ⟨by rw [← HZE.out, ← HZ.out], hp⟩
        case rest =>
          clear hp
          obtain ⟨rfl, hp⟩ := hcut
          have hcell := HC.out _ hp.hB
          have HP := Lib.hid hp
          have HOL := Lib.hid hp.ov.lt
          have hwr := hp.hB.size
          have hgw : g < wc.heap.size := by omega
          have z1 : IntKind.i64.wrap (v + s) = v + s := wrap_in _ (by omega) (by omega)
          have z2 : IntKind.i64.wrap (v + r) = v + r := wrap_in _ (by omega) (by omega)
          clear hp
          go_upto_region 18 with fail
          go_region_law (first
            | (refine step_app1 _ (by rfl) (.tmp 86) (.tmp 93) (by rfl) w0.heap.size (.slice av A.length cv) A rfl ((HP.out.later (by first | exact below_one _ _ | exact below_two _ _ _)).ov) _ 1 _ rfl (by first | exact heap_alloc_new _ _ | exact heap_first _ _ _ | exact heap_second _ _ _) (by omega) (Nat.le_trans HP.out.bs (HP.out.later (by first | exact below_one _ _ | exact below_two _ _ _)).hB.size) ?_
               intro g5 cap5 w5 ho5 hg5 hgg5 hgl5
               have hP5 := PairO.left (HP.out.later (by first | exact below_one _ _ | exact below_two _ _ _)) ho5 hg5 rfl hgg5
               have hpre := fun (H : Nat) (cs : Array Value) (t : TypeId) (hb : Blk _ H t cs) (hH : wc.heap.size ≤ H) => Blk.grown hb hg5 (fun e => by have := (HOL.out _ e.symm).2; omega)
               have t7 := HC.out _ hP5.hB
               have t8 := fun (o : Obj) => HC.out _ (hP5.later (alloc_below w5 o)).hB)
            | (refine step_app1 _ (by rfl) (.tmp 95) (.tmp 102) (by rfl) w0.heap.size (.slice au D.length cu) D rfl (by first | exact hP5.ou | exact hP5.ou.later (alloc_below _ _)) _ 1 _ rfl (by first | exact heap_alloc_new _ _ | exact hpre _ _ _ (heap_second _ _ _) (Nat.le_succ _) | exact hpre _ _ _ (heap_first _ _ _) (Nat.le_refl _)) (by omega) (by first | exact Nat.le_trans hP5.bs hP5.hB.size | exact Nat.le_trans (Nat.le_trans hP5.bs hP5.hB.size) (alloc_below _ _).size) ?_
               intro g6 cap6 w6 ho6 hg6 hgg6 hgl6
               have hfin := PairO.right (by first | exact hP5 | exact hP5.later (alloc_below _ _)) ho6 hg6 rfl hgg6
               have t9 := HC.out _ hfin.hB))
          all_goals
            go_wp2
            go_roundw
            case rel => exact ⟨k + 1, min p v, max q v, by omega, by go_num, rfl, rfl, HN.out, by omega, by omega, by omega, by omega, by rw [HS1.out, HS2.out]; exact hfin⟩
            case measure => simp [intOf]; omega
    · have d2 : decide (k < l.length) = false := by simpa using hlt
      obtain rfl : k = l.length := by omega
      rw [List.take_of_length_le (Nat.le_refl _)] at hpq
      obtain ⟨xx, hxx⟩ : ∃ xx, xx = x % 200001 := ⟨_, rfl⟩
      obtain ⟨yy, hyy⟩ : ∃ yy, yy = y % 200001 := ⟨_, rfl⟩
      have bx : 0 ≤ xx ∧ xx < 200001 := by omega
      have bY : 0 ≤ yy ∧ yy < 200001 := by omega
      have HXX := Lib.hid hxx
      have HYY := Lib.hid hyy
      clear hxx hyy
      have ht1 := HTW.out p q (xx - 100000) (yy - 100000) (fun v hv => (hpq v hv).1) (fun v hv => (hpq v hv).2)
      have ht2 := HTX.out p q (yy - 100000) (xx - 100000) (fun v hv => (hpq v hv).1) (fun v hv => (hpq v hv).2)
      have lA : (upTo (fun i => l.getD i 0 + errI es ee i) l.length).length = l.length := upTo_len _ _
      have lD : (upTo (fun i => l.getD i 0 + errI fs ee i) l.length).length = l.length := upTo_len _ _
      have bl : ∀ i, i < l.length → -500 ≤ l.getD i 0 ∧ l.getD i 0 ≤ 500 := fun i hi => by
        have : l.getD i 0 ∈ l := by simp [hi]
        exact hin _ this
      have bA : ∀ z ∈ upTo (fun i => l.getD i 0 + errI es ee i) l.length ++ [xx - 100000], -1000000 ≤ z ∧ z ≤ 1000000 := by
        intro z hz
        rcases List.mem_append.1 hz with hz | hz
        · obtain ⟨i, hi, rfl⟩ := upTo_mem hz
          have := bl i hi
          have := errI_in es ee ee0 i
          omega
        · simp at hz; omega
      have bD : ∀ z ∈ upTo (fun i => l.getD i 0 + errI fs ee i) l.length ++ [yy - 100000], -1000000 ≤ z ∧ z ≤ 1000000 := by
        intro z hz
        rcases List.mem_append.1 hz with hz | hz
        · obtain ⟨i, hi, rfl⟩ := upTo_mem hz
          have := bl i hi
          have := errI_in fs ee ee0 i
          omega
        · simp at hz; omega
      clear bl hpq
      generalize upTo (fun i => l.getD i 0 + errI es ee i) l.length = A at *
      generalize upTo (fun i => l.getD i 0 + errI fs ee i) l.length = D at *
      obtain ⟨av, cv, rfl⟩ := hp.ov.form
      obtain ⟨au, cu, rfl⟩ := hp.ou.form
      have HP := Lib.hid hp
      have hA1 : A.length ≤ 1000 := by omega
      have hD1 : D.length ≤ 1000 := by omega
      have l2A : 4 ≤ (A ++ [xx - 100000]).length ∧ (A ++ [xx - 100000]).length ≤ 1000 := by rw [List.length_append, lA]; simp; omega
      have l2D : 4 ≤ (D ++ [yy - 100000]).length ∧ (D ++ [yy - 100000]).length ≤ 1000 := by rw [List.length_append, lD]; simp; omega
      have mA := mid_in _ 1000000 l2A.1 bA
      have mD := mid_in _ 1000000 l2D.1 bD
      have L2A := Lib.hid l2A
      have L2D := Lib.hid l2D
      have HAL := Lib.hid (show (A ++ [xx - 100000]).length = A.length + 1 by simp)
      have HDL := Lib.hid (show (D ++ [yy - 100000]).length = D.length + 1 by simp)
      clear lA lD l2A l2D hp
      go_wp2_with (first
        | (go_at_call 11; refine (within11_any _ 200001 _ ?_ ?_).mono ?_; omega; omega; rintro e wl ⟨rfl, rfl⟩; first | rw [← HXX.out] | rw [← HYY.out])
        | (at_builtin; refine wpList_app1 _ rfl (.tmp 104) (.tmp 108) rfl w0.heap.size (.slice av A.length cv) A rfl ((HP.out.later (alloc_below _ _)).ov) wr.heap.size 1 (xx - 100000) rfl (heap_alloc_new _ _) (by omega) (Nat.le_trans HP.out.bs (HP.out.later (alloc_below _ _)).hB.size) ?_
           intro g5 cap5 w5 ho5 hg5 hgg5 hgl5
           have hP5 := PairO.left (HP.out.later (alloc_below _ _)) ho5 hg5 rfl hgg5)
        | (at_builtin; refine wpList_app1 _ rfl (.tmp 110) (.tmp 114) rfl w0.heap.size (.slice au D.length cu) D rfl ((hP5.later (alloc_below _ _)).ou) w5.heap.size 1 (yy - 100000) rfl (heap_alloc_new _ _) (by omega) (Nat.le_trans hP5.bs (hP5.later (alloc_below _ _)).hB.size) ?_
           intro g6 cap6 w6 ho6 hg6 hgg6 hgl6
           have hP6 := PairO.right (hP5.later (alloc_below _ _)) ho6 hg6 rfl hgg6))
      have hBe := HB0.out.trans (hP6.hB.mono HB0.out.size)
      obtain ⟨T, hT⟩ : ∃ T, A ++ [xx - 100000] = T := ⟨_, rfl⟩
      obtain ⟨U, hU⟩ : ∃ U, D ++ [yy - 100000] = U := ⟨_, rfl⟩
      have hov := hP6.ov
      have hou := hP6.ou
      rw [hT] at hov bA mA HAL L2A ht1 ht2
      rw [hU] at hou bD mD HDL L2D ht1 ht2
      have hrT := hov.row (by have := L2A.out; omega) (fun z hz => by have := bA z hz; omega)
      have hrU := hou.row (by have := L2D.out; omega) (fun z hz => by have := bD z hz; omega)
      have HMT := mid_any _ T cap5 w6 hrT L2A.out.2 (fun z hz => by have := bA z hz; omega)
      rw [midR_is L2A.out.1, HAL.out] at HMT
      have HMU := fun W (hb : Below w6.heap.size w6 W) => mid_any _ U cap6 W (hrU.later hb) L2D.out.2 (fun z hz => by have := bD z hz; omega)
      rw [midR_is L2D.out.1, HDL.out] at HMU
      have HT1 := Lib.hid HMT
      have HU1 := Lib.hid HMU
      clear HMT HMU hrT hrU hov hou bA bD hT hU hP6 hP5 HP HAL HDL L2A L2D HXX HYY HTW HTX
      generalize midI T = mt at *
      generalize midI U = mu at *
      go_wp2_with fail
      refine (HT1.out).mono ?_
      rintro e w7 ⟨rfl, hb7⟩
      replace hBe := hBe.trans (hb7.mono hBe.size)
      go_wp2_with fail
      refine (HU1.out _ hb7).mono ?_
      rintro e w8 ⟨rfl, hb8⟩
      replace hBe := hBe.trans (hb8.mono hBe.size)
      clear hb7 hb8 HT1 HU1
      have z1 : IntKind.i64.wrap (mt - mu) = mt - mu := wrap_in _ (by omega) (by omega)
      have z2 : IntKind.i64.wrap (mu - mt) = mu - mt := wrap_in _ (by omega) (by omega)
      have z3 : IntKind.i64.wrap (2 * max (mt - mu) (mu - mt)) = 2 * max (mt - mu) (mu - mt) := wrap_in _ (by omega) (by omega)
      have z4 : IntKind.i64.wrap (q - p) = q - p := wrap_in _ (by omega) (by omega)
      have z5 : IntKind.i64.wrap (4 * ee) = 4 * ee := wrap_in _ (by omega) (by omega)
      have z6 : IntKind.i64.wrap (q - p + 4 * ee) = q - p + 4 * ee := wrap_in _ (by omega) (by omega)
      have z7 : IntKind.i64.wrap (q - p + 4 * ee + 2) = q - p + 4 * ee + 2 := wrap_in _ (by omega) (by omega)
      have d9 : decide (2 * max (mt - mu) (mu - mt) ≤ q - p + 4 * ee + 2) = true := decide_eq_true (by omega)
      clear ht1 ht2 mA mD
      go_wp2
      go_ret
      exact ⟨rfl, hBe⟩

end Go.Proofs.Ytphjobeiindeeaa

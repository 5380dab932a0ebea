/-
  The walk of LaneSteps: it answers true, for all rows of numbers and bytes.
-/
import Derived.Test.YtaekdfjecokpmaaLaw71
import Derived.Test.YtaekdfjecokpmaaByt
namespace Go.Proofs.Ytaekdfjecokpmaa
open Go.RowKit Plait
set_option maxRecDepth 100000
set_option linter.unusedVariables false

/-- The loop: the relay and the reference's, side by side. -/
def BothAt (cmp : Bool) (a b : List UInt8) (g1 g2 : Nat) (w : World) (s t i : Value) (w' : World) : Prop :=
  ∃ (n : Nat) (o v : Bool) (l : List UInt8), n ≤ max a.length b.length + 1 ∧ s = .string ⟨l.toArray⟩ ∧ t = .bool v ∧ i = .int .i64 n ∧ RunAt cmp a b n o v l ∧
    Blk w' g1 45 #[.bool cmp, .bool o] ∧ Blk w' g2 47 #[.bool cmp, .bool o] ∧ Below w.heap.size w w'

/-- The loop over what comes behind. -/
def BehindAt (cmp : Bool) (n g1 : Nat) (w : World) (i : Value) (w' : World) : Prop :=
  ∃ k : Nat, k ≤ n ∧ i = .int .i64 k ∧ Blk w' g1 45 #[.bool cmp, .bool true] ∧ Below w.heap.size w w'

theorem pass_46 (cmp o : Bool) (k : UInt8) : passB cmp o 46 k = false := by
  unfold passB
  rw [symB_dot]
  simp

theorem pass_over (cmp : Bool) (c : UInt8) : stepC cmp true c c = 46 ∧ stepO cmp true c c = true := ⟨by simp [stepC, passB], by simp [stepO, passB]⟩

theorem grown_cell {w w' : World} {g b o : Nat} {v : Value} (hg : w.grownBy w' (some g)) (h : w.cell? ⟨b, o, none⟩ = some v) (hb : b < w.heap.size) (hne : b ≠ g) : w'.cell? ⟨b, o, none⟩ = some v := by
  have hk := hg.block b hb (fun e => hne (by injection e))
  rw [← h]
  unfold World.cell?
  rw [hk]




set_option maxHeartbeats 3200000 in
theorem laneSteps_walk (a0 : Option Addr) (z0 : List Int) (cap0 : Nat) (a1 : Option Addr) (z1 : List Int) (cap1 : Nat) (a2 : Option Addr) (z2 : List Int) (cap2 : Nat) (cmp : Bool) (a4 : Option Addr) (bs : List UInt8) (cap4 : Nat) (w : World) (r0 : Row w a0 z0) (r1 : Row w a1 z1) (r2 : Row w a2 z2) (r4 : RowB w a4 bs) :
    Calls Try.prog 4 #[.slice a0 z0.length cap0, .slice a1 z1.length cap1, .slice a2 z2.length cap2, .bool cmp, .slice a4 bs.length cap4] w fun e w' => e = .returned (.bool true) ∧ Below w.heap.size w w' := by
  have hB : Below w.heap.size w w := Below.refl _ _
  have l0 := textL_length z0
  have l1 := textL_length z1
  have l2 := textL_length z2
  by_cases h50 : 50 < bs.length
  · have d : decide ((50 : Int) < (bs.length : Int)) = true := by simp; omega
    go_enter Try.func4, Try.ntmps4
    go_wp2_with fail
    refine (known7_any _).mono ?_
    rintro e wn ⟨rfl, hb⟩
    go_wp2
    go_ret
    exact ⟨rfl, hb⟩
  have d : decide ((50 : Int) < (bs.length : Int)) = false := by simp; omega
  have lbs : bs.length ≤ 50 := by omega
  go_enter Try.func4, Try.ntmps4
  go_wp2_with fail
  refine (known7_any _).mono ?_
  rintro e wn ⟨rfl, hb⟩
  replace hB := hB.trans (hb.mono hB.size)
  clear hb
  go_wp2_with fail
  refine (text_any a2 z2 cap2 _ (r2.later hB)).mono ?_
  rintro e wn ⟨rfl, hb⟩
  replace hB := hB.trans (hb.mono hB.size)
  clear hb
  go_wp2_with fail
  refine (text_any a0 z0 cap0 _ (r0.later hB)).mono ?_
  rintro e wn ⟨rfl, hb⟩
  replace hB := hB.trans (hb.mono hB.size)
  clear hb
  go_wp2_with fail
  refine (text_any a1 z1 cap1 _ (r1.later hB)).mono ?_
  rintro e wn ⟨rfl, hb⟩
  replace hB := hB.trans (hb.mono hB.size)
  clear hb
  clear r0 r1 r2 d h50
  generalize textL z0 = N at *
  generalize textL z1 = M at *
  generalize textL z2 = K at *
  go_upto_region 7 with fail
  have lA : (K ++ N).length ≤ 160 := by simp; omega
  have lB : (K ++ M).length ≤ 160 := by simp; omega
  generalize K ++ N = a at *
  generalize K ++ M = b at *
  go_wp2_with fail
  refine (lNew_any cmp _).mono ?_
  rintro e w1 ⟨rfl, hw1⟩
  have hB1 : Below w.heap.size w w1 := by rw [hw1]; exact hB.alloc hB.size _
  have hK1 : Blk w1 wn.heap.size 45 #[.bool cmp, .bool false] := by rw [hw1]; exact Blk.new _ _ _
  have hg1 : w.heap.size ≤ wn.heap.size := hB.size
  have hs1 : wn.heap.size < w1.heap.size := hK1.lt
  generalize wn.heap.size = g1 at *
  clear hw1 hB
  go_wp2_with fail
  refine (rNew7_any cmp _).mono ?_
  rintro e w2 ⟨rfl, hw2⟩
  have hB2 : Below w.heap.size w w2 := by rw [hw2]; exact hB1.alloc hB1.size _
  have hK2 : Blk w2 w1.heap.size 47 #[.bool cmp, .bool false] := by rw [hw2]; exact Blk.new _ _ _
  replace hK1 : Blk w2 g1 45 #[.bool cmp, .bool false] := by rw [hw2]; exact hK1.alloc _
  generalize w1.heap.size = g2 at *
  clear hw2 hB1
  go_wp2
  go_loopw [16, 17, 18] (fun s t i w' => BothAt cmp a b g1 g2 w s t i w') (fun _ _ i _ => max a.length b.length + 1 - (intOf i).toNat)
  case atStart => exact ⟨0, false, false, [], by omega, rfl, rfl, rfl, RunAt.start _ _ _, hK1, hK2, hB2⟩
  case round =>
    clear hK1 hK2 hB2
    obtain ⟨n, o, v, l, hn, rfl, rfl, rfl, hR, hK1, hK2, hBr⟩ := hrel
    have HR := Lib.hid hR
    have lR := hR.len
    clear hR
    by_cases hlt : n ≤ max a.length b.length
    · have d0 : decide ((n : Int) ≤ max (a.length : Int) (b.length : Int)) = true := by simp; omega
      by_cases ha : n < a.length
      · have da : decide (n < a.length) = true := by simpa using ha
        have px := padL_in a n ha
        by_cases hb : n < b.length
        · have db : decide (n < b.length) = true := by simpa using hb
          have py := padL_in b n hb
          cases hp : passB cmp o a[n] b[n]
          · skip
            have c1 := stepC_fail hp
            have c2 := stepO_fail hp
            have HN := Lib.hid (HR.out.fail (by rw [px, py]; exact hp))
            clear hp
            go_wp2_with fail
            refine (lStep_any g1 cmp o a[n] b[n] _ hK1).mono ?_
            rintro e wm ⟨rfl, hk1, hgr⟩
            rw [c1]
            rw [c2] at hk1
            have hB2 : Below w.heap.size w wm := grown_below hBr hgr hg1
            have hk2 := hK2.grown hgr (by intro e; injection e with e; omega)
            clear hgr
            go_wp2_with fail
            refine (rStep7_any g2 cmp o a[n] b[n] _ hk2).mono ?_
            rintro e wq ⟨rfl, hj2, hgr⟩
            rw [c1]
            rw [c2] at hj2
            have hB3 : Below w.heap.size w wq := grown_below hB2 hgr (by omega)
            have hj1 := hk1.grown hgr (by intro e; injection e with e; omega)
            clear c1 c2 hgr hk2 hk1 hB2
            cases v
            · go_wp2
              go_roundw
              case rel => exact ⟨n + 1, _, _, _, by omega, rfl, rfl, by go_num, HN.out, hj1, hj2, hB3⟩
              case measure => simp [intOf]; omega
            · go_wp2
              go_roundw
              case rel => exact ⟨n + 1, _, _, _, by omega, rfl, rfl, by go_num, HN.out, hj1, hj2, hB3⟩
              case measure => simp [intOf]; omega
          · skip
            have c1 := stepC_pass hp
            have c2 := stepO_pass hp
            obtain ⟨hv, hN⟩ := HR.out.pass (by rw [px, py]; exact hp)
            rw [px] at hN
            have HN := Lib.hid hN
            subst hv
            have hd := pass_not_dot hp
            have n1 := dot_no hd
            have n2 := dot_no' hd
            have h1 := one_byte a[n]
            clear hp hd hN
            go_wp2_with fail
            refine (lStep_any g1 cmp o a[n] b[n] _ hK1).mono ?_
            rintro e wm ⟨rfl, hk1, hgr⟩
            rw [c1]
            rw [c2] at hk1
            have hB2 : Below w.heap.size w wm := grown_below hBr hgr hg1
            have hk2 := hK2.grown hgr (by intro e; injection e with e; omega)
            clear hgr
            go_wp2_with fail
            refine (rStep7_any g2 cmp o a[n] b[n] _ hk2).mono ?_
            rintro e wq ⟨rfl, hj2, hgr⟩
            rw [c1]
            rw [c2] at hj2
            have hB3 : Below w.heap.size w wq := grown_below hB2 hgr (by omega)
            have hj1 := hk1.grown hgr (by intro e; injection e with e; omega)
            clear c1 c2 hgr hk2 hk1 hB2
            go_wp2
            go_roundw
            case rel => exact ⟨n + 1, _, _, _, by omega, rfl, rfl, by go_num, HN.out, hj1.alloc _, hj2.alloc _, hB3.alloc hB3.size _⟩
            case measure => simp [intOf]; omega
        · have db : decide (n < b.length) = false := by simpa using hb
          have py := padL_out b n hb
          cases hp : passB cmp o a[n] 46
          · skip
            have c1 := stepC_fail hp
            have c2 := stepO_fail hp
            have HN := Lib.hid (HR.out.fail (by rw [px, py]; exact hp))
            clear hp
            go_wp2_with fail
            refine (lStep_any g1 cmp o a[n] 46 _ hK1).mono ?_
            rintro e wm ⟨rfl, hk1, hgr⟩
            rw [c1]
            rw [c2] at hk1
            have hB2 : Below w.heap.size w wm := grown_below hBr hgr hg1
            have hk2 := hK2.grown hgr (by intro e; injection e with e; omega)
            clear hgr
            go_wp2_with fail
            refine (rStep7_any g2 cmp o a[n] 46 _ hk2).mono ?_
            rintro e wq ⟨rfl, hj2, hgr⟩
            rw [c1]
            rw [c2] at hj2
            have hB3 : Below w.heap.size w wq := grown_below hB2 hgr (by omega)
            have hj1 := hk1.grown hgr (by intro e; injection e with e; omega)
            clear c1 c2 hgr hk2 hk1 hB2
            cases v
            · go_wp2
              go_roundw
              case rel => exact ⟨n + 1, _, _, _, by omega, rfl, rfl, by go_num, HN.out, hj1, hj2, hB3⟩
              case measure => simp [intOf]; omega
            · go_wp2
              go_roundw
              case rel => exact ⟨n + 1, _, _, _, by omega, rfl, rfl, by go_num, HN.out, hj1, hj2, hB3⟩
              case measure => simp [intOf]; omega
          · skip
            have c1 := stepC_pass hp
            have c2 := stepO_pass hp
            obtain ⟨hv, hN⟩ := HR.out.pass (by rw [px, py]; exact hp)
            rw [px] at hN
            have HN := Lib.hid hN
            subst hv
            have hd := pass_not_dot hp
            have n1 := dot_no hd
            have n2 := dot_no' hd
            have h1 := one_byte a[n]
            clear hp hd hN
            go_wp2_with fail
            refine (lStep_any g1 cmp o a[n] 46 _ hK1).mono ?_
            rintro e wm ⟨rfl, hk1, hgr⟩
            rw [c1]
            rw [c2] at hk1
            have hB2 : Below w.heap.size w wm := grown_below hBr hgr hg1
            have hk2 := hK2.grown hgr (by intro e; injection e with e; omega)
            clear hgr
            go_wp2_with fail
            refine (rStep7_any g2 cmp o a[n] 46 _ hk2).mono ?_
            rintro e wq ⟨rfl, hj2, hgr⟩
            rw [c1]
            rw [c2] at hj2
            have hB3 : Below w.heap.size w wq := grown_below hB2 hgr (by omega)
            have hj1 := hk1.grown hgr (by intro e; injection e with e; omega)
            clear c1 c2 hgr hk2 hk1 hB2
            go_wp2
            go_roundw
            case rel => exact ⟨n + 1, _, _, _, by omega, rfl, rfl, by go_num, HN.out, hj1.alloc _, hj2.alloc _, hB3.alloc hB3.size _⟩
            case measure => simp [intOf]; omega
      · have da : decide (n < a.length) = false := by simpa using ha
        have px := padL_out a n ha
        by_cases hb : n < b.length
        · have db : decide (n < b.length) = true := by simpa using hb
          have py := padL_in b n hb
          have hp := pass_46 cmp o b[n]
          have c1 := stepC_fail hp
          have c2 := stepO_fail hp
          have HN := Lib.hid (HR.out.fail (by rw [px, py]; exact hp))
          clear hp
          go_wp2_with fail
          refine (lStep_any g1 cmp o 46 b[n] _ hK1).mono ?_
          rintro e wm ⟨rfl, hk1, hgr⟩
          rw [c1]
          rw [c2] at hk1
          have hB2 : Below w.heap.size w wm := grown_below hBr hgr hg1
          have hk2 := hK2.grown hgr (by intro e; injection e with e; omega)
          clear hgr
          go_wp2_with fail
          refine (rStep7_any g2 cmp o 46 b[n] _ hk2).mono ?_
          rintro e wq ⟨rfl, hj2, hgr⟩
          rw [c1]
          rw [c2] at hj2
          have hB3 : Below w.heap.size w wq := grown_below hB2 hgr (by omega)
          have hj1 := hk1.grown hgr (by intro e; injection e with e; omega)
          clear c1 c2 hgr hk2 hk1 hB2
          cases v
          · go_wp2
            go_roundw
            case rel => exact ⟨n + 1, _, _, _, by omega, rfl, rfl, by go_num, HN.out, hj1, hj2, hB3⟩
            case measure => simp [intOf]; omega
          · go_wp2
            go_roundw
            case rel => exact ⟨n + 1, _, _, _, by omega, rfl, rfl, by go_num, HN.out, hj1, hj2, hB3⟩
            case measure => simp [intOf]; omega
        · have db : decide (n < b.length) = false := by simpa using hb
          have py := padL_out b n hb
          have hp := pass_46 cmp o 46
          have c1 := stepC_fail hp
          have c2 := stepO_fail hp
          have HN := Lib.hid (HR.out.fail (by rw [px, py]; exact hp))
          clear hp
          go_wp2_with fail
          refine (lStep_any g1 cmp o 46 46 _ hK1).mono ?_
          rintro e wm ⟨rfl, hk1, hgr⟩
          rw [c1]
          rw [c2] at hk1
          have hB2 : Below w.heap.size w wm := grown_below hBr hgr hg1
          have hk2 := hK2.grown hgr (by intro e; injection e with e; omega)
          clear hgr
          go_wp2_with fail
          refine (rStep7_any g2 cmp o 46 46 _ hk2).mono ?_
          rintro e wq ⟨rfl, hj2, hgr⟩
          rw [c1]
          rw [c2] at hj2
          have hB3 : Below w.heap.size w wq := grown_below hB2 hgr (by omega)
          have hj1 := hk1.grown hgr (by intro e; injection e with e; omega)
          clear c1 c2 hgr hk2 hk1 hB2
          cases v
          · go_wp2
            go_roundw
            case rel => exact ⟨n + 1, _, _, _, by omega, rfl, rfl, by go_num, HN.out, hj1, hj2, hB3⟩
            case measure => simp [intOf]; omega
          · go_wp2
            go_roundw
            case rel => exact ⟨n + 1, _, _, _, by omega, rfl, rfl, by go_num, HN.out, hj1, hj2, hB3⟩
            case measure => simp [intOf]; omega
    · have d0 : decide ((n : Int) ≤ max (a.length : Int) (b.length : Int)) = false := by simp; omega
      obtain ⟨hv, ho, hl⟩ := HR.out.over (by omega)
      subst hv
      subst ho
      have HO := Lib.hid hl.symm
      clear hl HR hK2
      go_wp2
      go_loopw [22] (fun i w' => BehindAt cmp bs.length g1 w i w') (fun i _ => bs.length - (intOf i).toNat)
      case atStart => exact ⟨0, by omega, rfl, hK1, hBr⟩
      case round =>
        clear hK1 hBr
        obtain ⟨j, hj, rfl, hK1, hBr⟩ := hrel
        by_cases hlt2 : j < bs.length
        · have d1 : decide (j < bs.length) = true := by simpa using hlt2
          obtain ⟨tb, off, rfl, htb, hcell⟩ := r4.get j hlt2
          have hc : wr.cell? ⟨tb, off + j, none⟩ = some (.int .u8 bs[j].toNat) := by rw [hBr.cell (p := ⟨tb, off + j, none⟩) htb]; exact hcell
          have HP := Lib.hid (pass_over cmp bs[j])
          have hlen := hBr.size
          clear hcell
          go_wp2_with fail
          go_region_held3 (fun W => W.cell? ⟨tb, off + j, none⟩ = some (.int .u8 bs[j].toNat))
            (first | exact hc | assumption | exact hc2)
            (first
            | (go_at_call 15; refine (lStep_any g1 cmp true bs[j] bs[j] _ hK1.drew1).mono ?_; rintro e wm ⟨rfl, hk2, hg2⟩; rw [HP.out.1]; rw [HP.out.2] at hk2; have hc2 : wm.cell? ⟨tb, off + j, none⟩ = some (.int .u8 bs[j].toNat) := grown_cell hg2 hc (Nat.lt_of_lt_of_le htb hlen) (by omega)))
          all_goals
            have hB2 : Below w.heap.size w wm := grown_below hBr.drew hg2 hg1
            go_wp2
            go_roundw
            case rel => exact ⟨j + 1, by omega, by go_num, hk2, hB2⟩
            case measure => simp [intOf]; omega
        · have d1 : decide (j < bs.length) = false := by simpa using hlt2
          go_wp2_with fail
          refine (lOut_any cmp a b _ (by omega) (by omega)).mono ?_
          rintro e wm ⟨rfl, hbm⟩
          rw [HO.out]
          go_wp2
          go_ret
          exact ⟨rfl, hBr.trans (hbm.mono hBr.size)⟩

end Go.Proofs.Ytaekdfjecokpmaa

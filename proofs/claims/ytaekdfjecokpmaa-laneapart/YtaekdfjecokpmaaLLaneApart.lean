/-
  The walk of LaneApart: it answers true, for all rows of numbers.
-/
import Derived.Test.YtaekdfjecokpmaaLaw71
namespace Go.Proofs.Ytaekdfjecokpmaa
open Go.RowKit Plait
set_option maxRecDepth 100000
set_option linter.unusedVariables false

/-- The loop: two relays, side by side. -/
def ApartAt (a b : List UInt8) (g1 g2 : Nat) (w : World) (s t i : Value) (w' : World) : Prop :=
  ∃ (n : Nat) (o1 v1 o2 v2 : Bool) (l1 l2 : List UInt8), n ≤ max a.length b.length ∧ s = .string ⟨l1.toArray⟩ ∧ t = .string ⟨l2.toArray⟩ ∧ i = .int .i64 n ∧ RunAt false a b n o1 v1 l1 ∧ RunAt true b b n o2 v2 l2 ∧
    Blk w' g1 45 #[.bool false, .bool o1] ∧ Blk w' g2 45 #[.bool true, .bool o2] ∧ Below w.heap.size w w'

theorem pass_46 (cmp o : Bool) (k : UInt8) : passB cmp o 46 k = false := by
  unfold passB
  rw [symB_dot]
  simp





set_option maxHeartbeats 3200000 in
theorem laneApart_walk (a0 : Option Addr) (z0 : List Int) (cap0 : Nat) (a1 : Option Addr) (z1 : List Int) (cap1 : Nat) (w : World) (r0 : Row w a0 z0) (r1 : Row w a1 z1) :
    Calls Try.prog 7 #[.slice a0 z0.length cap0, .slice a1 z1.length cap1] w fun e w' => e = .returned (.bool true) ∧ Below w.heap.size w w' := by
  have hB : Below w.heap.size w w := Below.refl _ _
  have l0 := textL_length z0
  have l1 := textL_length z1
  go_enter Try.func7, Try.ntmps7
  go_wp2_with fail
  refine (known7_any _).mono ?_
  rintro e wn ⟨rfl, hb⟩
  replace hB := hB.trans (hb.mono hB.size)
  clear hb
  go_wp2_with fail
  refine (text_any a0 z0 cap0 _ (r0.later hB)).mono ?_
  rintro e wn ⟨rfl, hb⟩
  replace hB := hB.trans (hb.mono hB.size)
  clear hb
  go_wp2_with fail
  refine (text_any a1 z1 cap1 _ (r1.later hB)).mono ?_
  rintro e wn ⟨rfl, hb⟩
  replace hB := hB.trans (hb.mono hB.size)
  clear hb
  clear r0 r1
  generalize textL z0 = N at *
  generalize textL z1 = M at *
  go_upto_region 4 with fail
  have lA : (N ++ [46]).length ≤ 81 := by simp; omega
  have lB : (M ++ [46]).length ≤ 81 := by simp; omega
  generalize N ++ [46] = a at *
  generalize M ++ [46] = b at *
  go_wp2_with fail
  refine (lNew_any false _).mono ?_
  rintro e w1 ⟨rfl, hw1⟩
  have hB1 : Below w.heap.size w w1 := by rw [hw1]; exact hB.alloc hB.size _
  have hK1 : Blk w1 wn.heap.size 45 #[.bool false, .bool false] := by rw [hw1]; exact Blk.new _ _ _
  have hg1 : w.heap.size ≤ wn.heap.size := hB.size
  have hs1 : wn.heap.size < w1.heap.size := hK1.lt
  generalize wn.heap.size = g1 at *
  clear hw1 hB
  go_wp2_with fail
  refine (lNew_any true _).mono ?_
  rintro e w2 ⟨rfl, hw2⟩
  have hB2 : Below w.heap.size w w2 := by rw [hw2]; exact hB1.alloc hB1.size _
  have hK2 : Blk w2 w1.heap.size 45 #[.bool true, .bool false] := by rw [hw2]; exact Blk.new _ _ _
  replace hK1 : Blk w2 g1 45 #[.bool false, .bool false] := by rw [hw2]; exact hK1.alloc _
  generalize w1.heap.size = g2 at *
  clear hw2 hB1
  go_wp2
  go_loopw [9, 10, 11] (fun s t i w' => ApartAt a b g1 g2 w s t i w') (fun _ _ i _ => max a.length b.length - (intOf i).toNat)
  case atStart => exact ⟨0, false, false, false, false, [], [], by omega, rfl, rfl, rfl, RunAt.start _ _ _, RunAt.start _ _ _, hK1, hK2, hB2⟩
  case round =>
    clear hK1 hK2 hB2
    obtain ⟨n, o1, v1, o2, v2, l1, l2, hn, rfl, rfl, rfl, hR1, hR2, hK1, hK2, hBr⟩ := hrel
    have HR1 := Lib.hid hR1
    have HR2 := Lib.hid hR2
    have lR1 := hR1.len
    have lR2 := hR2.len
    clear hR1 hR2
    by_cases hlt : n < max a.length b.length
    · have d0 : decide ((n : Int) < max (a.length : Int) (b.length : Int)) = true := by simp; omega
      by_cases ha : n < a.length
      · have da : decide (n < a.length) = true := by simpa using ha
        have px := padL_in a n ha
        by_cases hb : n < b.length
        · have db : decide (n < b.length) = true := by simpa using hb
          have py := padL_in b n hb
          cases hp1 : passB false o1 a[n] b[n]
          ·
            have c1 := stepC_fail hp1
            have c2 := stepO_fail hp1
            have HN1 := Lib.hid (HR1.out.fail (by rw [px, py]; exact hp1))
            clear hp1
            go_wp2_with fail
            refine (lStep_any g1 false o1 a[n] b[n] _ hK1).mono ?_
            rintro e wm ⟨rfl, hk1, hgr⟩
            rw [c1]
            rw [c2] at hk1
            have hB2 : Below w.heap.size w wm := grown_below hBr hgr hg1
            have hk2 := hK2.grown hgr (by intro e; injection e with e; omega)
            clear c1 c2 hgr
            cases hp2 : passB true o2 b[n] b[n]
            ·
              have c1 := stepC_fail hp2
              have c2 := stepO_fail hp2
              have HN2 := Lib.hid (HR2.out.fail (by rw [py]; exact hp2))
              clear hp2
              go_wp2_with fail
              refine (lStep_any g2 true o2 b[n] b[n] _ hk2).mono ?_
              rintro e wq ⟨rfl, hj2, hgr⟩
              rw [c1]
              rw [c2] at hj2
              have hB3 : Below w.heap.size w wq := grown_below hB2 hgr (by omega)
              have hj1 := hk1.grown hgr (by intro e; injection e with e; omega)
              clear c1 c2 hgr hk2 hk1 hB2
              go_wp2
              go_roundw
              case rel => exact ⟨n + 1, _, _, _, _, _, _, by omega, rfl, rfl, by go_num, HN1.out, HN2.out, hj1, hj2, hB3⟩
              case measure => simp [intOf]; omega
            ·
              have c1 := stepC_pass hp2
              have c2 := stepO_pass hp2
              have HN2 := Lib.hid (HR2.out.pass (by rw [py]; exact hp2)).2
              rw [py] at HN2
              have hd := pass_not_dot hp2
              have m1 := dot_no hd
              have m2 := dot_no' hd
              have h2 := one_byte b[n]
              clear hp2 hd
              go_wp2_with fail
              refine (lStep_any g2 true o2 b[n] b[n] _ hk2).mono ?_
              rintro e wq ⟨rfl, hj2, hgr⟩
              rw [c1]
              rw [c2] at hj2
              have hB3 : Below w.heap.size w wq := grown_below hB2 hgr (by omega)
              have hj1 := hk1.grown hgr (by intro e; injection e with e; omega)
              clear c1 c2 hgr hk2 hk1 hB2
              go_wp2
              go_roundw
              case rel => exact ⟨n + 1, _, _, _, _, _, _, by omega, rfl, rfl, by go_num, HN1.out, HN2.out, hj1.alloc _, hj2.alloc _, hB3.alloc hB3.size _⟩
              case measure => simp [intOf]; omega
          ·
            have c1 := stepC_pass hp1
            have c2 := stepO_pass hp1
            have HN1 := Lib.hid (HR1.out.pass (by rw [px, py]; exact hp1)).2
            rw [px] at HN1
            have hd := pass_not_dot hp1
            have n1 := dot_no hd
            have n2 := dot_no' hd
            have h1 := one_byte a[n]
            clear hp1 hd
            go_wp2_with fail
            refine (lStep_any g1 false o1 a[n] b[n] _ hK1).mono ?_
            rintro e wm ⟨rfl, hk1, hgr⟩
            rw [c1]
            rw [c2] at hk1
            replace hB2 : Below w.heap.size w wm := grown_below hBr hgr hg1
            replace hk2 := hK2.grown hgr (by intro e; injection e with e; omega)
            replace hk1 := hk1.alloc (.cells #[.int .u8 (a[n]).toNat] 5)
            replace hk2 := hk2.alloc (.cells #[.int .u8 (a[n]).toNat] 5)
            replace hB2 := hB2.alloc hB2.size (.cells #[.int .u8 (a[n]).toNat] 5)
            clear c1 c2 hgr
            cases hp2 : passB true o2 b[n] b[n]
            ·
              have c1 := stepC_fail hp2
              have c2 := stepO_fail hp2
              have HN2 := Lib.hid (HR2.out.fail (by rw [py]; exact hp2))
              clear hp2
              go_wp2_with fail
              refine (lStep_any g2 true o2 b[n] b[n] _ hk2).mono ?_
              rintro e wq ⟨rfl, hj2, hgr⟩
              rw [c1]
              rw [c2] at hj2
              have hB3 : Below w.heap.size w wq := grown_below hB2 hgr (by omega)
              have hj1 := hk1.grown hgr (by intro e; injection e with e; omega)
              clear c1 c2 hgr hk2 hk1 hB2
              go_wp2
              go_roundw
              case rel => exact ⟨n + 1, _, _, _, _, _, _, by omega, rfl, rfl, by go_num, HN1.out, HN2.out, hj1, hj2, hB3⟩
              case measure => simp [intOf]; omega
            ·
              have c1 := stepC_pass hp2
              have c2 := stepO_pass hp2
              have HN2 := Lib.hid (HR2.out.pass (by rw [py]; exact hp2)).2
              rw [py] at HN2
              have hd := pass_not_dot hp2
              have m1 := dot_no hd
              have m2 := dot_no' hd
              have h2 := one_byte b[n]
              clear hp2 hd
              go_wp2_with fail
              refine (lStep_any g2 true o2 b[n] b[n] _ hk2).mono ?_
              rintro e wq ⟨rfl, hj2, hgr⟩
              rw [c1]
              rw [c2] at hj2
              have hB3 : Below w.heap.size w wq := grown_below hB2 hgr (by omega)
              have hj1 := hk1.grown hgr (by intro e; injection e with e; omega)
              clear c1 c2 hgr hk2 hk1 hB2
              go_wp2
              go_roundw
              case rel => exact ⟨n + 1, _, _, _, _, _, _, by omega, rfl, rfl, by go_num, HN1.out, HN2.out, hj1.alloc _, hj2.alloc _, hB3.alloc hB3.size _⟩
              case measure => simp [intOf]; omega
        · have db : decide (n < b.length) = false := by simpa using hb
          have py := padL_out b n hb
          have hp2 := pass_46 true o2 46
          cases hp1 : passB false o1 a[n] 46
          ·
            have c1 := stepC_fail hp1
            have c2 := stepO_fail hp1
            have HN1 := Lib.hid (HR1.out.fail (by rw [px, py]; exact hp1))
            clear hp1
            go_wp2_with fail
            refine (lStep_any g1 false o1 a[n] 46 _ hK1).mono ?_
            rintro e wm ⟨rfl, hk1, hgr⟩
            rw [c1]
            rw [c2] at hk1
            have hB2 : Below w.heap.size w wm := grown_below hBr hgr hg1
            have hk2 := hK2.grown hgr (by intro e; injection e with e; omega)
            clear c1 c2 hgr
            have c1 := stepC_fail hp2
            have c2 := stepO_fail hp2
            have HN2 := Lib.hid (HR2.out.fail (by rw [py]; exact hp2))
            clear hp2
            go_wp2_with fail
            refine (lStep_any g2 true o2 46 46 _ hk2).mono ?_
            rintro e wq ⟨rfl, hj2, hgr⟩
            rw [c1]
            rw [c2] at hj2
            have hB3 : Below w.heap.size w wq := grown_below hB2 hgr (by omega)
            have hj1 := hk1.grown hgr (by intro e; injection e with e; omega)
            clear c1 c2 hgr hk2 hk1 hB2
            go_wp2
            go_roundw
            case rel => exact ⟨n + 1, _, _, _, _, _, _, by omega, rfl, rfl, by go_num, HN1.out, HN2.out, hj1, hj2, hB3⟩
            case measure => simp [intOf]; omega
          ·
            have c1 := stepC_pass hp1
            have c2 := stepO_pass hp1
            have HN1 := Lib.hid (HR1.out.pass (by rw [px, py]; exact hp1)).2
            rw [px] at HN1
            have hd := pass_not_dot hp1
            have n1 := dot_no hd
            have n2 := dot_no' hd
            have h1 := one_byte a[n]
            clear hp1 hd
            go_wp2_with fail
            refine (lStep_any g1 false o1 a[n] 46 _ hK1).mono ?_
            rintro e wm ⟨rfl, hk1, hgr⟩
            rw [c1]
            rw [c2] at hk1
            replace hB2 : Below w.heap.size w wm := grown_below hBr hgr hg1
            replace hk2 := hK2.grown hgr (by intro e; injection e with e; omega)
            replace hk1 := hk1.alloc (.cells #[.int .u8 (a[n]).toNat] 5)
            replace hk2 := hk2.alloc (.cells #[.int .u8 (a[n]).toNat] 5)
            replace hB2 := hB2.alloc hB2.size (.cells #[.int .u8 (a[n]).toNat] 5)
            clear c1 c2 hgr
            have c1 := stepC_fail hp2
            have c2 := stepO_fail hp2
            have HN2 := Lib.hid (HR2.out.fail (by rw [py]; exact hp2))
            clear hp2
            go_wp2_with fail
            refine (lStep_any g2 true o2 46 46 _ hk2).mono ?_
            rintro e wq ⟨rfl, hj2, hgr⟩
            rw [c1]
            rw [c2] at hj2
            have hB3 : Below w.heap.size w wq := grown_below hB2 hgr (by omega)
            have hj1 := hk1.grown hgr (by intro e; injection e with e; omega)
            clear c1 c2 hgr hk2 hk1 hB2
            go_wp2
            go_roundw
            case rel => exact ⟨n + 1, _, _, _, _, _, _, by omega, rfl, rfl, by go_num, HN1.out, HN2.out, hj1, hj2, hB3⟩
            case measure => simp [intOf]; omega
      · have da : decide (n < a.length) = false := by simpa using ha
        have px := padL_out a n ha
        have hb : n < b.length := by omega
        have db : decide (n < b.length) = true := by simpa using hb
        have py := padL_in b n hb
        have hp1 := pass_46 false o1 b[n]
        have c1 := stepC_fail hp1
        have c2 := stepO_fail hp1
        have HN1 := Lib.hid (HR1.out.fail (by rw [px, py]; exact hp1))
        clear hp1
        go_wp2_with fail
        refine (lStep_any g1 false o1 46 b[n] _ hK1).mono ?_
        rintro e wm ⟨rfl, hk1, hgr⟩
        rw [c1]
        rw [c2] at hk1
        have hB2 : Below w.heap.size w wm := grown_below hBr hgr hg1
        have hk2 := hK2.grown hgr (by intro e; injection e with e; omega)
        clear c1 c2 hgr
        cases hp2 : passB true o2 b[n] b[n]
        ·
          have c1 := stepC_fail hp2
          have c2 := stepO_fail hp2
          have HN2 := Lib.hid (HR2.out.fail (by rw [py]; exact hp2))
          clear hp2
          go_wp2_with fail
          refine (lStep_any g2 true o2 b[n] b[n] _ hk2).mono ?_
          rintro e wq ⟨rfl, hj2, hgr⟩
          rw [c1]
          rw [c2] at hj2
          have hB3 : Below w.heap.size w wq := grown_below hB2 hgr (by omega)
          have hj1 := hk1.grown hgr (by intro e; injection e with e; omega)
          clear c1 c2 hgr hk2 hk1 hB2
          go_wp2
          go_roundw
          case rel => exact ⟨n + 1, _, _, _, _, _, _, by omega, rfl, rfl, by go_num, HN1.out, HN2.out, hj1, hj2, hB3⟩
          case measure => simp [intOf]; omega
        ·
          have c1 := stepC_pass hp2
          have c2 := stepO_pass hp2
          have HN2 := Lib.hid (HR2.out.pass (by rw [py]; exact hp2)).2
          rw [py] at HN2
          have hd := pass_not_dot hp2
          have m1 := dot_no hd
          have m2 := dot_no' hd
          have h2 := one_byte b[n]
          clear hp2 hd
          go_wp2_with fail
          refine (lStep_any g2 true o2 b[n] b[n] _ hk2).mono ?_
          rintro e wq ⟨rfl, hj2, hgr⟩
          rw [c1]
          rw [c2] at hj2
          have hB3 : Below w.heap.size w wq := grown_below hB2 hgr (by omega)
          have hj1 := hk1.grown hgr (by intro e; injection e with e; omega)
          clear c1 c2 hgr hk2 hk1 hB2
          go_wp2
          go_roundw
          case rel => exact ⟨n + 1, _, _, _, _, _, _, by omega, rfl, rfl, by go_num, HN1.out, HN2.out, hj1.alloc _, hj2.alloc _, hB3.alloc hB3.size _⟩
          case measure => simp [intOf]; omega
    · have d0 : decide ((n : Int) < max (a.length : Int) (b.length : Int)) = false := by simp; omega
      have e1 : l1 = clean a := HR1.out.done (by omega)
      have e2 : l2 = clean b := by rw [HR2.out.done (by omega), out_self]
      subst e1
      subst e2
      clear HR1 HR2
      go_wp2_with fail
      refine (rclean_any a _ (by omega)).mono ?_
      rintro e wl ⟨rfl, rfl⟩
      go_wp2_with fail
      refine (rclean_any b _ (by omega)).mono ?_
      rintro e wl ⟨rfl, rfl⟩
      go_wp2
      go_ret
      exact ⟨rfl, hBr⟩

end Go.Proofs.Ytaekdfjecokpmaa

/-
  The walk of LaneIdle: it answers true, for all rows of numbers and places.
-/
import Derived.Test.YtaekdfjecokpmaaLaw71
namespace Go.Proofs.Ytaekdfjecokpmaa
open Go.RowKit Plait
set_option maxRecDepth 100000
set_option linter.unusedVariables false

/-- The loop. -/
def IdleAt (cmp : Bool) (S : List UInt8) (k g : Nat) (w : World) (s i : Value) (w' : World) : Prop :=
  ∃ n : Nat, n ≤ S.length ∧ i = .int .i64 n ∧ StepsAt cmp S (S.take k) g n w s w'

theorem pad_take (S : List UInt8) (k n : Nat) (h : n < S.length) (hk : k ≤ S.length) : padL (S.take k) n = if n < k then padL S n else 46 := by
  by_cases h2 : n < k
  · rw [if_pos h2, padL_in _ _ (by rw [List.length_take]; omega), padL_in S n h, List.getElem_take]
  · rw [if_neg h2, padL_out _ _ (by rw [List.length_take]; omega)]


set_option maxHeartbeats 1600000 in
theorem laneIdle_walk (a0 : Option Addr) (z0 : List Int) (cap0 : Nat) (q : Int) (cmp : Bool) (w : World) (r0 : Row w a0 z0) (hq1 : -9223372036854775808 ≤ q) (hq2 : q ≤ 9223372036854775807) :
    Calls Try.prog 8 #[.slice a0 z0.length cap0, .int .i64 q, .bool cmp] w fun e w' => e = .returned (.bool true) ∧ Below w.heap.size w w' := by
  have hB : Below w.heap.size w w := Below.refl _ _
  have l0 := textL_length z0
  go_enter Try.func8, Try.ntmps8
  go_wp2_with fail
  refine (known7_any _).mono ?_
  rintro e wn ⟨rfl, hb⟩
  replace hB := hB.trans (hb.mono hB.size)
  clear hb
  go_wp2_with fail
  refine (text_any a0 z0 cap0 _ (r0.later hB)).mono ?_
  rintro e wn ⟨rfl, hb⟩
  replace hB := hB.trans (hb.mono hB.size)
  clear hb
  clear r0
  generalize textL z0 = N at *
  go_wp2_with fail
  refine (rclean_any _ _ (by omega)).mono ?_
  rintro e wl ⟨rfl, rfl⟩
  have HI := Lib.hid (clean_idem N)
  have lS : (clean N).length ≤ 80 := by rw [clean_length]; have := slen_le N; omega
  generalize clean N = S at *
  have hm0 := Int.emod_nonneg q (show (S.length : Int) + 1 ≠ 0 by omega)
  have hm1 := Int.emod_lt_of_pos q (show (0 : Int) < (S.length : Int) + 1 by omega)
  obtain ⟨k, hk⟩ : ∃ k : Nat, q % ((S.length : Int) + 1) = k := ⟨(q % ((S.length : Int) + 1)).toNat, by omega⟩
  have hkl : k ≤ S.length := by omega
  have HK := Lib.hid hk
  clear hk hm0 hm1 hq1 hq2
  go_wp2_with fail
  refine (within7_any _ _ _ (by omega) (by omega)).mono ?_
  rintro e wl ⟨rfl, rfl⟩
  rw [HK.out]
  go_wp2_with fail
  refine (lNew_any cmp _).mono ?_
  rintro e w1 ⟨rfl, hw1⟩
  have hB1 : Below w.heap.size w w1 := by rw [hw1]; exact hB.alloc hB.size _
  have hK : Blk w1 wn.heap.size 45 #[.bool cmp, .bool false] := by rw [hw1]; exact Blk.new _ _ _
  have hg : w.heap.size ≤ wn.heap.size := hB.size
  generalize wn.heap.size = g at *
  clear hw1 hB
  go_wp2
  go_loopw [10, 11] (fun s i w' => IdleAt cmp S k g w s i w') (fun _ i _ => S.length - (intOf i).toNat)
  case atStart => exact ⟨0, by omega, rfl, false, false, [], rfl, RunAt.start _ _ _, hK, hB1⟩
  case round =>
    clear hK hB1
    obtain ⟨n, hn, rfl, o, v, l, rfl, hR, hKr, hBr⟩ := hrel
    have HR := Lib.hid hR
    have lR := hR.len
    clear hR
    by_cases hlt : n < S.length
    · have d1 : decide (n < S.length) = true := by simpa using hlt
      have hpad := pad_take S k n hlt hkl
      have hpn := padL_in S n hlt
      by_cases h2 : n < k
      · have d2 : decide ((n : Int) < (k : Int)) = true := by simp; omega
        rw [if_pos h2, hpn] at hpad
        cases hp : passB cmp o S[n] S[n]
        · have c1 := stepC_fail hp
          have c2 := stepO_fail hp
          have HN := Lib.hid (HR.out.fail (by rw [hpn, hpad]; exact hp))
          clear hp hpn hpad
          go_wp2_with fail
          refine (lStep_any g cmp o S[n] S[n] _ hKr).mono ?_
          rintro e wm ⟨rfl, hk2, hg2⟩
          rw [c1]
          rw [c2] at hk2
          have hB2 : Below w.heap.size w wm := grown_below hBr hg2 hg
          go_wp2
          go_roundw
          case rel => exact ⟨n + 1, by omega, by go_num, true, true, l, rfl, HN.out, hk2, hB2⟩
          case measure => simp [intOf]; omega
        · have c1 := stepC_pass hp
          have c2 := stepO_pass hp
          have HN := Lib.hid (HR.out.pass (by rw [hpn, hpad]; exact hp)).2
          have hd := pass_not_dot hp
          have n1 := dot_no hd
          have n2 := dot_no' hd
          have h1 := one_byte S[n]
          rw [hpn] at HN
          clear hp hpn hpad hd
          go_wp2_with fail
          refine (lStep_any g cmp o S[n] S[n] _ hKr).mono ?_
          rintro e wm ⟨rfl, hk2, hg2⟩
          rw [c1]
          rw [c2] at hk2
          have hB2 : Below w.heap.size w wm := grown_below hBr hg2 hg
          go_wp2
          go_roundw
          case rel => exact ⟨n + 1, by omega, by go_num, _, false, _, rfl, HN.out, hk2.alloc _, hB2.alloc hB2.size _⟩
          case measure => simp [intOf]; omega
      · have d2 : decide ((n : Int) < (k : Int)) = false := by simp; omega
        rw [if_neg h2] at hpad
        cases hp : passB cmp o S[n] 46
        · have c1 := stepC_fail hp
          have c2 := stepO_fail hp
          have HN := Lib.hid (HR.out.fail (by rw [hpn, hpad]; exact hp))
          clear hp hpn hpad
          go_wp2_with fail
          refine (lStep_any g cmp o S[n] 46 _ hKr).mono ?_
          rintro e wm ⟨rfl, hk2, hg2⟩
          rw [c1]
          rw [c2] at hk2
          have hB2 : Below w.heap.size w wm := grown_below hBr hg2 hg
          go_wp2
          go_roundw
          case rel => exact ⟨n + 1, by omega, by go_num, true, true, l, rfl, HN.out, hk2, hB2⟩
          case measure => simp [intOf]; omega
        · have c1 := stepC_pass hp
          have c2 := stepO_pass hp
          have HN := Lib.hid (HR.out.pass (by rw [hpn, hpad]; exact hp)).2
          have hd := pass_not_dot hp
          have n1 := dot_no hd
          have n2 := dot_no' hd
          have h1 := one_byte S[n]
          rw [hpn] at HN
          clear hp hpn hpad hd
          go_wp2_with fail
          refine (lStep_any g cmp o S[n] 46 _ hKr).mono ?_
          rintro e wm ⟨rfl, hk2, hg2⟩
          rw [c1]
          rw [c2] at hk2
          have hB2 : Below w.heap.size w wm := grown_below hBr hg2 hg
          go_wp2
          go_roundw
          case rel => exact ⟨n + 1, by omega, by go_num, _, false, _, rfl, HN.out, hk2.alloc _, hB2.alloc hB2.size _⟩
          case measure => simp [intOf]; omega
    · have d1 : decide (n < S.length) = false := by simpa using hlt
      have g0 : (0 : Int) ≤ (k : Int) := by omega
      have g1 : (k : Int) ≤ (S.length : Int) := by omega
      have lT : (S.take k).length ≤ 80 := by rw [List.length_take]; omega
      cases cmp
      · have HO : outL false S (S.take k) = S := HI.out
        have e1 : l = S := by rw [HR.out.done (by omega), HO]
        subst e1
        have HO := Lib.hid HO
        go_wp2_with fail
        refine (lOut_any _ _ _ _ (by omega) (by omega)).mono ?_
        rintro e wm ⟨rfl, hbm⟩
        rw [HO.out]
        go_wp2
        go_ret
        exact ⟨rfl, hBr.trans (hbm.mono hBr.size)⟩
      · have HO := out_front_take S k HI.out
        have e1 : l = S.take k := by rw [HR.out.done (by omega), HO]
        subst e1
        have HO := Lib.hid HO
        go_wp2_with fail
        go_region_held3 (fun W => True) (trivial) (first
          | (go_at_call 11; refine (lOut_any _ _ _ _ ?_ ?_).mono ?_; omega; omega; rintro e wm ⟨rfl, hbm⟩; rw [HO.out]))
        all_goals
          go_wp2
          go_ret
          exact ⟨rfl, hBr.drew.trans (hbm.mono hBr.drew.size)⟩

end Go.Proofs.Ytaekdfjecokpmaa

/-
  Contract of lane.Out, for all texts.
-/
import Derived.Test.YtaekdfjecokpmaaDev29
namespace Go.Proofs.Ytaekdfjecokpmaa
open Go.RowKit Plait
set_option maxRecDepth 100000
set_option linter.unusedVariables false

theorem stepC_pass {cmp o : Bool} {d s : UInt8} (h : passB cmp o d s = true) : stepC cmp o d s = d := by unfold stepC; rw [h]; rfl
theorem stepO_pass {cmp o : Bool} {d s : UInt8} (h : passB cmp o d s = true) : stepO cmp o d s = (d == 35) := by unfold stepO; rw [h]; rfl
theorem stepC_fail {cmp o : Bool} {d s : UInt8} (h : passB cmp o d s = false) : stepC cmp o d s = 46 := by unfold stepC; rw [h]; rfl
theorem stepO_fail {cmp o : Bool} {d s : UInt8} (h : passB cmp o d s = false) : stepO cmp o d s = true := by unfold stepO; rw [h]; rfl

/-- What passes is no dot. -/
theorem pass_dot {cmp o : Bool} {d s : UInt8} (h : passB cmp o d s = true) : ((d.toNat : Int) == 46) = false := by
  rw [beq_eq_false_iff_ne]
  intro e
  have : d = 46 := UInt8.toNat_inj.1 (by simpa using (by omega : d.toNat = 46))
  subst this
  unfold passB at h
  rw [symB_dot] at h
  simp at h

theorem grown_below {w0 w w' : World} {g : Nat} (h : Below w0.heap.size w0 w) (hg : w.grownBy w' (some g)) (hl : w0.heap.size ≤ g) : Below w0.heap.size w0 w' :=
  below_grown h h.size hg (fun k hk => by injection hk with hk; omega)

/-- The loop of Out. -/
def OutAt (cmp : Bool) (a b : List UInt8) (g : Nat) (w : World) (n : Value) (w' : World) : Prop :=
  ∃ (k : Nat) (o : Bool), n = .int .i64 k ∧ LaneAt cmp a b k o ∧ Blk w' g 45 #[.bool cmp, .bool o] ∧ Below w.heap.size w w'

set_option maxHeartbeats 800000 in
theorem lOut_any (cmp : Bool) (a b : List UInt8) (w : World) (ha : a.length ≤ 1099511627776) (hb' : b.length ≤ 1099511627776) :
    Calls Try.prog 11 #[.bool cmp, .string ⟨a.toArray⟩, .string ⟨b.toArray⟩] w fun e w' => e = .returned (.string ⟨(outL cmp a b).toArray⟩) ∧ Below w.heap.size w w' := by
  go_enter Try.func11, Try.ntmps11
  go_wp2_with fail
  refine (lNew_any cmp _).mono ?_
  rintro e w1 ⟨rfl, hw1⟩
  have hB : Below w.heap.size w w1 := by rw [hw1]; exact alloc_below w _
  have hK : Blk w1 w.heap.size 45 #[.bool cmp, .bool false] := by rw [hw1]; exact Blk.new w _ _
  clear hw1
  generalize hgg : w.heap.size = g at *
  go_wp2
  go_loopw [8] (fun n w' => OutAt cmp a b w.heap.size w n w') (fun n _ => a.length - (intOf n).toNat)
  case atStart => exact ⟨0, false, rfl, LaneAt.start cmp a b, by rw [hgg]; exact hK, by rw [hgg]; exact hB⟩
  case round =>
    obtain ⟨k, o, rfl, hL, hKr, hBr⟩ := hrel
    rw [hgg] at hKr
    have HL := Lib.hid hL
    have hle := hL.le
    clear hL
    by_cases hk : k < a.length
    · have d1 : decide (k < a.length) = true := by simpa using hk
      have hpk := padL_in a k hk
      cases hp : passB cmp o (padL a k) (padL b k)
      · have c1 := stepC_fail hp
        have c2 := stepO_fail hp
        have HF := Lib.hid (HL.out.stop hp)
        rw [hpk] at c1 c2
        clear hp hpk
        go_wp2_with fail
        go_region_held3 (fun W => True) (trivial) (first
          | (go_at_call 22; refine (lat_any b k _ ?_ ?_).mono ?_; omega; omega; rintro e wl ⟨rfl, rfl⟩)
          | (go_at_call 15; refine (lStep_any g cmp o _ _ _ hKr.drew1).mono ?_; rintro e wm ⟨rfl, hk2, hg2⟩; rw [c1]; rw [c2] at hk2))
        all_goals
          have hB2 : Below w.heap.size w wm := grown_below hBr.drew hg2 (by omega)
          go_wp2_with (go_at_call 23; refine (clone_any _ _ (by rw [size_mk]; simp; omega)).mono ?_; rintro e w3 ⟨rfl, hb3⟩)
          go_ret
          exact ⟨ret_str (by rw [HF.out]), hB2.trans (hb3.mono hB2.size)⟩
      · have c1 := stepC_pass hp
        have c2 := stepO_pass hp
        have c3 := pass_dot hp
        obtain ⟨HN, _⟩ := HL.out.next hp
        have HN := Lib.hid HN
        rw [hpk] at c1 c2 c3
        clear hp
        go_wp2_with fail
        go_region_held3 (fun W => True) (trivial) (first
          | (go_at_call 22; refine (lat_any b k _ ?_ ?_).mono ?_; omega; omega; rintro e wl ⟨rfl, rfl⟩)
          | (go_at_call 15; refine (lStep_any g cmp o _ _ _ hKr.drew1).mono ?_; rintro e wm ⟨rfl, hk2, hg2⟩; rw [c1]; rw [c2] at hk2))
        all_goals
          have hB2 : Below w.heap.size w wm := grown_below hBr.drew hg2 (by omega)
          go_wp2
          go_roundw
          case rel => exact ⟨k + 1, _, by go_num, HN.out, by rw [hgg, hpk]; exact hk2, hB2⟩
          case measure => simp [intOf]; omega
    · have d1 : decide (k < a.length) = false := by simpa using hk
      have hka : k = a.length := by omega
      subst hka
      have HF := Lib.hid HL.out.done
      go_wp2
      go_quiet (fail)
      go_wp2_with (go_at_call 23; refine (clone_any _ _ (by rw [size_mk]; omega)).mono ?_; rintro e w3 ⟨rfl, hb3⟩)
      go_ret
      have hB2 := below_drewN hBr nq
      exact ⟨ret_str (by rw [HF.out]), hB2.trans (hb3.mono hB2.size)⟩

end Go.Proofs.Ytaekdfjecokpmaa

/-
  Contracts of the reference's relay: New, Step, Out.
-/
import Derived.Test.YtaekdfjecokpmaaDev30
import Derived.Test.YtaekdfjecokpmaaRef1
namespace Go.Proofs.Ytaekdfjecokpmaa
open Go.RowKit Plait
set_option maxRecDepth 100000
set_option linter.unusedVariables false

theorem rNew7_any (cmp : Bool) (w : World) :
    Calls Try.prog 14 #[.bool cmp] w fun e w' => e = .returned (.pointer (some ⟨w.heap.size, 0, none⟩)) ∧ w' = w.alloc (.cells #[.bool cmp, .bool false] 47) := by
  go_enter Try.func14, Try.ntmps14
  go_wp2
  go_ret
  exact ⟨rfl, rfl⟩

theorem rOut7_any (cmp : Bool) (a b : List UInt8) (w : World) (ha : a.length ≤ 1099511627776) (hb : b.length ≤ 1099511627776) :
    Calls Try.prog 12 #[.bool cmp, .string ⟨a.toArray⟩, .string ⟨b.toArray⟩] w fun e w' => e = .returned (.string ⟨(outL cmp a b).toArray⟩) ∧ Below w.heap.size w w' := by
  have l1 := slen_le a
  have l2 := slen_le b
  have m1 := clean_len a
  have m2 := clean_len b
  cases cmp
  · go_enter Try.func12, Try.ntmps12
    go_wp2_with fail
    refine (rclean_any a _ ha).mono ?_
    rintro e wl ⟨rfl, rfl⟩
    go_wp2
    go_ret
    exact ⟨rfl, Below.refl _ _⟩
  · go_enter Try.func12, Try.ntmps12
    go_wp2_with fail
    refine (rclean_any a _ ha).mono ?_
    rintro e wl ⟨rfl, rfl⟩
    go_wp2_with fail
    refine (rclean_any b _ hb).mono ?_
    rintro e wl ⟨rfl, rfl⟩
    go_wp2_with fail
    refine (rcommon_any _ _ _ (by omega) (by omega)).mono ?_
    rintro e wl ⟨rfl, hb3⟩
    go_wp2
    go_ret
    exact ⟨rfl, hb3⟩



set_option maxHeartbeats 800000 in
theorem rStep7_any (g : Nat) (cmp over : Bool) (d s : UInt8) (w : World) (hK : Blk w g 47 #[.bool cmp, .bool over]) :
    Calls Try.prog 16 #[.pointer (some ⟨g, 0, none⟩), .int .u8 d.toNat, .int .u8 s.toNat] w (StepRet g 47 cmp over d s w) := by
  have hq := hK.at
  have hf := hK.frozen
  have hB : Below w.heap.size w w := Below.refl _ _
  cases over
  · by_cases h1 : d = 48
    · subst h1
      cases cmp
      · have HP : Hid (stepC false false 48 s = 48 ∧ stepO false false 48 s = (48 == 35)) := Lib.hid ⟨rfl, rfl⟩
        go_enter Try.func16, Try.ntmps16
        go_wp2
        go_ret
        refine ⟨by rw [HP.out.1]; rfl, ?_, grown_set hB g 1 _⟩
        rw [HP.out.2]
        exact hK.set 1 _
      · by_cases hs : s = 48
        · subst hs
          have HP : Hid (stepC true false 48 48 = 48 ∧ stepO true false 48 48 = (48 == 35)) := Lib.hid ⟨rfl, rfl⟩
          go_enter Try.func16, Try.ntmps16
          go_wp2
          go_ret
          refine ⟨by rw [HP.out.1]; rfl, ?_, grown_set hB g 1 _⟩
          rw [HP.out.2]
          exact hK.set 1 _
        · have d3 : ((48 : Int) == (s.toNat : Int)) = false := by
            rw [beq_eq_false_iff_ne]
            intro e
            exact hs (UInt8.toNat_inj.1 (by show s.toNat = 48; omega))
          have d4 : ((((48 : UInt8).toNat : Nat) : Int) == (s.toNat : Int)) = false := d3
          have hn : ((48 : UInt8) == s) = false := by rw [beq_eq_false_iff_ne]; exact fun e => hs e.symm
          have hp : passB true false 48 s = false := by unfold passB; rw [hn]; rfl
          have HP : Hid (stepC true false 48 s = 46 ∧ stepO true false 48 s = true) := Lib.hid ⟨stepC_fail hp, stepO_fail hp⟩
          clear hs hn hp
          go_enter Try.func16, Try.ntmps16
          go_wp2
          go_ret
          refine ⟨by rw [HP.out.1]; rfl, ?_, grown_set hB g 1 _⟩
          rw [HP.out.2]
          exact hK.set 1 _
    by_cases h2 : d = 49
    · subst h2
      cases cmp
      · have HP : Hid (stepC false false 49 s = 49 ∧ stepO false false 49 s = (49 == 35)) := Lib.hid ⟨rfl, rfl⟩
        go_enter Try.func16, Try.ntmps16
        go_wp2
        go_ret
        refine ⟨by rw [HP.out.1]; rfl, ?_, grown_set hB g 1 _⟩
        rw [HP.out.2]
        exact hK.set 1 _
      · by_cases hs : s = 49
        · subst hs
          have HP : Hid (stepC true false 49 49 = 49 ∧ stepO true false 49 49 = (49 == 35)) := Lib.hid ⟨rfl, rfl⟩
          go_enter Try.func16, Try.ntmps16
          go_wp2
          go_ret
          refine ⟨by rw [HP.out.1]; rfl, ?_, grown_set hB g 1 _⟩
          rw [HP.out.2]
          exact hK.set 1 _
        · have d3 : ((49 : Int) == (s.toNat : Int)) = false := by
            rw [beq_eq_false_iff_ne]
            intro e
            exact hs (UInt8.toNat_inj.1 (by show s.toNat = 49; omega))
          have d4 : ((((49 : UInt8).toNat : Nat) : Int) == (s.toNat : Int)) = false := d3
          have hn : ((49 : UInt8) == s) = false := by rw [beq_eq_false_iff_ne]; exact fun e => hs e.symm
          have hp : passB true false 49 s = false := by unfold passB; rw [hn]; rfl
          have HP : Hid (stepC true false 49 s = 46 ∧ stepO true false 49 s = true) := Lib.hid ⟨stepC_fail hp, stepO_fail hp⟩
          clear hs hn hp
          go_enter Try.func16, Try.ntmps16
          go_wp2
          go_ret
          refine ⟨by rw [HP.out.1]; rfl, ?_, grown_set hB g 1 _⟩
          rw [HP.out.2]
          exact hK.set 1 _
    by_cases h3 : d = 35
    · subst h3
      cases cmp
      · have HP : Hid (stepC false false 35 s = 35 ∧ stepO false false 35 s = (35 == 35)) := Lib.hid ⟨rfl, rfl⟩
        go_enter Try.func16, Try.ntmps16
        go_wp2
        go_ret
        refine ⟨by rw [HP.out.1]; rfl, ?_, grown_set hB g 1 _⟩
        rw [HP.out.2]
        exact hK.set 1 _
      · by_cases hs : s = 35
        · subst hs
          have HP : Hid (stepC true false 35 35 = 35 ∧ stepO true false 35 35 = (35 == 35)) := Lib.hid ⟨rfl, rfl⟩
          go_enter Try.func16, Try.ntmps16
          go_wp2
          go_ret
          refine ⟨by rw [HP.out.1]; rfl, ?_, grown_set hB g 1 _⟩
          rw [HP.out.2]
          exact hK.set 1 _
        · have d3 : ((35 : Int) == (s.toNat : Int)) = false := by
            rw [beq_eq_false_iff_ne]
            intro e
            exact hs (UInt8.toNat_inj.1 (by show s.toNat = 35; omega))
          have d4 : ((((35 : UInt8).toNat : Nat) : Int) == (s.toNat : Int)) = false := d3
          have hn : ((35 : UInt8) == s) = false := by rw [beq_eq_false_iff_ne]; exact fun e => hs e.symm
          have hp : passB true false 35 s = false := by unfold passB; rw [hn]; rfl
          have HP : Hid (stepC true false 35 s = 46 ∧ stepO true false 35 s = true) := Lib.hid ⟨stepC_fail hp, stepO_fail hp⟩
          clear hs hn hp
          go_enter Try.func16, Try.ntmps16
          go_wp2
          go_ret
          refine ⟨by rw [HP.out.1]; rfl, ?_, grown_set hB g 1 _⟩
          rw [HP.out.2]
          exact hK.set 1 _
    have d1 : ((d.toNat : Int) == 48) = false := byte_ne d 48 (by decide) h1
    have d2 : ((d.toNat : Int) == 49) = false := byte_ne d 49 (by decide) h2
    have d3 : ((d.toNat : Int) == 35) = false := byte_ne d 35 (by decide) h3
    have n1 : ((d.toNat : Int) != 48) = true := by rw [bne, d1]; rfl
    have n2 : ((d.toNat : Int) != 49) = true := by rw [bne, d2]; rfl
    have n3 : ((d.toNat : Int) != 35) = true := by rw [bne, d3]; rfl
    have hp : passB cmp false d s = false := by simp [passB, symB, bitB, h1, h2, h3]
    have HP : Hid (stepC cmp false d s = 46 ∧ stepO cmp false d s = true) := Lib.hid ⟨stepC_fail hp, stepO_fail hp⟩
    clear h1 h2 h3 hp
    go_enter Try.func16, Try.ntmps16
    go_wp2
    go_ret
    refine ⟨by rw [HP.out.1]; rfl, ?_, grown_set hB g 1 _⟩
    rw [HP.out.2]
    exact hK.set 1 _
  · have hp : passB cmp true d s = false := rfl
    have HP : Hid (stepC cmp true d s = 46 ∧ stepO cmp true d s = true) := Lib.hid ⟨stepC_fail hp, stepO_fail hp⟩
    clear hp
    go_enter Try.func16, Try.ntmps16
    go_wp2
    go_ret
    refine ⟨by rw [HP.out.1]; rfl, ?_, grown_set hB g 1 _⟩
    rw [HP.out.2]
    exact hK.set 1 _

end Go.Proofs.Ytaekdfjecokpmaa

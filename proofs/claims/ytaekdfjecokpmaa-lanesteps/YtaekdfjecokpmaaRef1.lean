/-
  Contracts of the reference's symbols: the same answers as package sym's, for every input; nothing that was in memory is changed.
-/
import Derived.Test.YtaekdfjecokpmaaSym6
import Derived.RegionTactic
namespace Go.Proofs.Ytaekdfjecokpmaa
open Go.RowKit Plait
set_option maxRecDepth 100000
set_option linter.unusedVariables false

@[go_sem] theorem app_mk (x y : List UInt8) : (⟨x.toArray⟩ ++ ⟨y.toArray⟩ : ByteArray) = ⟨(x ++ y).toArray⟩ := ByteArray.mk_append_mk x y

theorem byte_ne (c : UInt8) (n : Nat) (hn : n < 256) (h : c ≠ UInt8.ofNat n) : ((c.toNat : Int) == (n : Int)) = false := by
  rw [beq_eq_false_iff_ne]
  intro e
  apply h
  apply UInt8.toNat_inj.1
  simp [UInt8.toNat_ofNat', Nat.mod_eq_of_lt hn]
  omega

theorem rsymbol_any (c : UInt8) (w : World) :
    Calls Try.prog 26 #[.int .u8 c.toNat] w fun e w' => e = .returned (.bool (bitB c || c == 35)) ∧ w = w' := by
  by_cases h1 : c = 48
  · subst h1
    go_enter Try.func26, Try.ntmps26
    go_wp2
    go_ret
    exact ⟨rfl, rfl⟩
  by_cases h2 : c = 49
  · subst h2
    go_enter Try.func26, Try.ntmps26
    go_wp2
    go_ret
    exact ⟨rfl, rfl⟩
  by_cases h3 : c = 35
  · subst h3
    go_enter Try.func26, Try.ntmps26
    go_wp2
    go_ret
    exact ⟨rfl, rfl⟩
  have d1 : ((c.toNat : Int) == 48) = false := byte_ne c 48 (by decide) h1
  have d2 : ((c.toNat : Int) == 49) = false := byte_ne c 49 (by decide) h2
  have d3 : ((c.toNat : Int) == 35) = false := byte_ne c 35 (by decide) h3
  have HF := Lib.hid (show (bitB c || c == 35) = false by simp [bitB, h1, h2, h3])
  clear h1 h2 h3
  go_enter Try.func26, Try.ntmps26
  go_wp2
  go_ret
  exact ⟨ret_bool HF.out.symm, rfl⟩

/-- The reference's loop: where it stands, and that all bytes ahead of it are bits. -/
def RCleanAt (l : List UInt8) (i : Value) : Prop := ∃ k : Nat, k ≤ l.length ∧ i = .int .i64 k ∧ ∀ c ∈ l.take k, bitB c = true

set_option maxHeartbeats 400000 in
theorem rclean_any (l : List UInt8) (w : World) (hs : l.length ≤ 1099511627776) :
    Calls Try.prog 18 #[.string ⟨l.toArray⟩] w fun e w' => e = .returned (.string ⟨(clean l).toArray⟩) ∧ w = w' := by
  go_enter Try.func18, Try.ntmps18
  go_wp2
  go_loop [3] (fun i => RCleanAt l i) (fun i => l.length - (intOf i).toNat)
  case atStart => exact ⟨0, Nat.zero_le _, rfl, by simp⟩
  case round =>
    obtain ⟨k, hk, rfl, hb⟩ := hrel
    have HB := Lib.hid hb
    clear hb
    by_cases hlt : k < l.length
    · by_cases h35 : l[k] = 35
      · have d1 : ((l[k].toNat : Int) == 35) = true := by simp [h35]
        have d2 : (bitB l[k] || l[k] == 35) = true := by simp [h35]
        have HF := Lib.hid (slen_at_tail l k hlt HB.out h35)
        clear h35
        go_wp2_with (go_at_call 26; refine (rsymbol_any _ _).mono ?_; rintro e w' ⟨rfl, rfl⟩; rw [d2])
        go_ret
        exact ⟨ret_str (by rw [clean, HF.out]), rfl⟩
      · have d1 : ((l[k].toNat : Int) == 35) = false := byte_ne _ 35 (by decide) h35
        by_cases hbit : bitB l[k] = true
        · have d2 : (bitB l[k] || l[k] == 35) = true := by simp [hbit]
          have HN := Lib.hid (bits_snoc l k hlt HB.out hbit)
          clear h35 hbit
          go_wp2_with (go_at_call 26; refine (rsymbol_any _ _).mono ?_; rintro e w' ⟨rfl, rfl⟩; rw [d2])
          go_round
          case rel => exact ⟨k + 1, by omega, by go_num, HN.out⟩
          case measure => simp [intOf]; omega
        · have d2 : (bitB l[k] || l[k] == 35) = false := by simp [hbit, h35]
          have HF := Lib.hid (slen_at_other l k hlt HB.out h35 (by simpa using hbit))
          clear h35 hbit
          go_wp2_with (go_at_call 26; refine (rsymbol_any _ _).mono ?_; rintro e w' ⟨rfl, rfl⟩; rw [d2])
          go_ret
          exact ⟨ret_str (by rw [clean, HF.out]), rfl⟩
    · have HF := Lib.hid (slen_at_end l (by rw [show l.length = k by omega]; exact HB.out))
      go_wp2
      go_ret
      exact ⟨ret_str (by rw [clean, HF.out, List.take_length]), rfl⟩

set_option maxHeartbeats 800000 in
theorem rcommon_any (l m : List UInt8) (w : World) (hl : l.length ≤ 1099511627776) (hm : m.length ≤ 1099511627776) :
    Calls Try.prog 19 #[.string ⟨l.toArray⟩, .string ⟨m.toArray⟩] w fun e w' => e = .returned (.string ⟨(common l m).toArray⟩) ∧ Below w.heap.size w w' := by
  go_enter Try.func19, Try.ntmps19
  go_wp2
  go_loopw [5] (fun n w' => ComAt l m n ∧ Below w.heap.size w w') (fun n _ => l.length - (intOf n).toNat)
  case atStart => exact ⟨⟨0, Nat.zero_le _, Nat.zero_le _, by simp, rfl⟩, Below.refl _ _⟩
  case round =>
    obtain ⟨⟨k, hk1, hk2, heq, rfl⟩, hb⟩ := hrel
    have HE := Lib.hid heq
    clear heq
    by_cases h1 : k < l.length
    · have d1 : decide (k < l.length) = true := by simpa using h1
      by_cases h2 : k < m.length
      · have d2 : decide (k < m.length) = true := by simpa using h2
        by_cases h3 : l[k] = m[k]
        · have HN := Lib.hid (take_snoc_eq k l m h1 h2 HE.out h3)
          have d3 : ((l[k].toNat : Int) == (m[k].toNat : Int)) = true := by simp [h3]
          clear h3
          go_wp2
          go_quiet (fail)
          go_wp2
          go_roundw
          case rel => exact ⟨⟨k + 1, by omega, by omega, HN.out, by go_num⟩, below_drewN hb _⟩
          case measure => simp [intOf]; omega
        · have HF := Lib.hid (comm_stop k l m h1 h2 HE.out h3)
          have d3 : ((l[k].toNat : Int) == (m[k].toNat : Int)) = false := by
            rw [beq_eq_false_iff_ne]
            intro e
            exact h3 (UInt8.toNat_inj.1 (by omega))
          clear h3
          go_wp2
          go_quiet (fail)
          go_wp2
          go_ret
          exact ⟨ret_str (by rw [common, HF.out]), below_drewN hb _⟩
      · have HF := Lib.hid (comm_out_right k l m hk1 (by omega) HE.out)
        have d2 : decide (k < m.length) = false := by simpa using h2
        go_wp2
        go_quiet (fail)
        go_wp2
        go_ret
        exact ⟨ret_str (by rw [common, HF.out]), below_drewN hb _⟩
    · have HF := Lib.hid (comm_out_left k l m (by omega) hk2 HE.out)
      have d1 : decide (k < l.length) = false := by simpa using h1
      go_wp2
      go_quiet (fail)
      go_wp2
      go_ret
      exact ⟨ret_str (by rw [common, HF.out]), below_drewN hb _⟩

end Go.Proofs.Ytaekdfjecokpmaa

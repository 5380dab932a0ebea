/-
  Contracts of the second laws' own helpers: within, Bits, known.
-/
import Derived.Test.YtholemhfbafipaaLaw1
import Derived.Test.YtholemhfbafipaaDev2
namespace Go.Proofs.Ytholemhfbafipaa
open Go.RowKit Plait
set_option linter.unusedVariables false

theorem within2_any (a n : Int) (w : World) (hn : 0 < n) (hn2 : n ≤ 1099511627776) :
    Calls Try.prog 18 #[.int .i64 a, .int .i64 n] w fun e w' => e = .returned (.int .i64 (a % n)) ∧ w = w' := by
  have b1 : 0 ≤ a % n := Int.emod_nonneg _ (by omega)
  have b2 : a % n < n := Int.emod_lt_of_pos _ hn
  by_cases h0 : 0 ≤ a
  · go_enter Try.func18, Try.ntmps18
    go_wp2
    go_ret
    exact ⟨rfl, rfl⟩
  · have h1 : a.tmod n = -((-a) % n) := by
      rw [show a = -(-a) by omega, Int.neg_tmod, Int.tmod_eq_emod_of_nonneg (by omega)]; simp
    have c1 : 0 ≤ (-a) % n := Int.emod_nonneg _ (by omega)
    have c2 : (-a) % n < n := Int.emod_lt_of_pos _ hn
    by_cases hz : (-a) % n = 0
    · have h2 : a.tmod n = 0 := by rw [h1, hz]; rfl
      have HF := Lib.hid (show (0 : Int) = a % n by
        have : n ∣ -a := Int.dvd_of_emod_eq_zero hz
        exact (Int.emod_eq_zero_of_dvd (Int.dvd_neg.1 this)).symm)
      clear h1 hz c1 c2 b1 b2
      go_enter Try.func18, Try.ntmps18
      go_wp2
      go_ret
      exact ⟨ret_int HF.out, rfl⟩
    · obtain ⟨r, hr⟩ : ∃ r, r = (-a) % n := ⟨_, rfl⟩
      rw [← hr] at h1 c1 c2 hz
      have HF := Lib.hid (show -r + n = a % n by
        have e := Int.emod_add_mul_ediv (-a) n
        rw [← hr] at e
        have e2 : a = (-r + n) + n * (-((-a) / n) - 1) := by rw [Int.mul_sub, Int.mul_neg]; omega
        rw [e2, Int.add_mul_emod_self_left]
        exact (Int.emod_eq_of_lt (by omega) (by omega)).symm)
      clear hr b1 b2
      go_enter Try.func18, Try.ntmps18
      go_wp2
      go_ret
      exact ⟨ret_int HF.out, rfl⟩

theorem tdiv_two (z : Int) (h1 : -9223372036854775808 ≤ z) (h2 : z ≤ 9223372036854775807) : -9223372036854775808 ≤ z.tdiv 2 ∧ z.tdiv 2 ≤ 9223372036854775807 := by
  by_cases h : 0 ≤ z
  · rw [Int.tdiv_eq_ediv_of_nonneg h]; omega
  · rw [show z = -(-z) by omega, Int.neg_tdiv, Int.tdiv_eq_ediv_of_nonneg (by omega)]; omega

/-- How many bits a number gives. -/
def bitsN (z : Int) : Nat := 1 + (z.tdiv 2 % 3).toNat
def bitsT (zs : List Int) : List UInt8 := (zs.take 80).flatMap fun z => bitsL z (bitsN z)

theorem bitsN_le (z : Int) : 1 ≤ bitsN z ∧ bitsN z ≤ 3 := by unfold bitsN; omega

theorem flat_len : ∀ (zs : List Int), (zs.flatMap fun z => bitsL z (bitsN z)).length ≤ 3 * zs.length
  | [] => by simp
  | z :: zs => by
    have := flat_len zs
    have h := bitsN_le z
    rw [List.flatMap_cons, List.length_append, bitsL_length, List.length_cons]
    omega

theorem bitsT_length (zs : List Int) : (bitsT zs).length ≤ 240 := by
  have := flat_len (zs.take 80)
  have h : (zs.take 80).length ≤ 80 := by rw [List.length_take]; omega
  unfold bitsT
  omega

theorem bitsT_all (zs : List Int) : allBits (bitsT zs) := by
  intro c hc
  unfold bitsT at hc
  rw [List.mem_flatMap] at hc
  obtain ⟨z, _, hz⟩ := hc
  exact bits_all _ _ c hz

theorem bitsT_of (zs : List Int) (k : Nat) (h : k ≤ zs.length) (h2 : k ≤ 80) (h3 : k = zs.length ∨ k = 80) : ((zs.take k).flatMap fun z => bitsL z (bitsN z)) = bitsT zs := by
  unfold bitsT
  rcases h3 with rfl | rfl
  · rw [List.take_of_length_le (Nat.le_refl _), List.take_of_length_le h2]
  · rfl

theorem bitsT_take (zs : List Int) (k : Nat) (h : k < zs.length) : ((zs.take (k + 1)).flatMap fun z => bitsL z (bitsN z)) = ((zs.take k).flatMap fun z => bitsL z (bitsN z)) ++ bitsL zs[k] (bitsN zs[k]) := by
  rw [List.take_succ_eq_append_getElem h, List.flatMap_append]
  simp

/-- The loop of Bits. -/
def BitsTAt (zs : List Int) (w : World) (s i : Value) (w' : World) : Prop :=
  ∃ k : Nat, k ≤ zs.length ∧ k ≤ 80 ∧ i = .int .i64 k ∧ s = .string ⟨((zs.take k).flatMap fun z => bitsL z (bitsN z)).toArray⟩ ∧ Below w.heap.size w w'

set_option maxHeartbeats 1600000 in
theorem bitsT_any (a : Option Addr) (zs : List Int) (cap : Nat) (w : World) (hrow : Row w a zs) :
    Calls Try.prog 12 #[.slice a zs.length cap] w fun e w' => e = .returned (.string ⟨(bitsT zs).toArray⟩) ∧ Below w.heap.size w w' := by
  have hl := hrow.1
  go_enter Try.func12, Try.ntmps12
  go_wp2
  go_loopw [3, 4] (fun s i w' => BitsTAt zs w s i w') (fun _ i _ => zs.length - (intOf i).toNat)
  case atStart => exact ⟨0, Nat.zero_le _, Nat.zero_le _, rfl, by simp, Below.refl _ _⟩
  case round =>
    obtain ⟨k, hk, hk2, rfl, rfl, hb⟩ := hrel
    by_cases hlt : k < zs.length
    · have d1 : decide (k < zs.length) = true := by simpa using hlt
      by_cases h80 : k < 80
      · have d2 : decide ((k : Int) < 80) = true := by simp; omega
        have hlen : ((zs.take k).flatMap fun z => bitsL z (bitsN z)).length ≤ 240 := by
          have := flat_len (zs.take k)
          rw [List.length_take] at this
          omega
        obtain ⟨_, hz, h3⟩ := hrow
        rcases h3 with h3 | ⟨b, off, rfl, hbl, hc⟩
        · rw [h3] at hlt; simp at hlt
        have hck : wr.cell? ⟨b, off + k, none⟩ = some (.int .i64 zs[k]) := by rw [hb.cell (p := ⟨b, off + k, none⟩) hbl]; exact hc k hlt
        have hzk := hz zs[k] (List.getElem_mem hlt)
        have HT := Lib.hid (bitsT_take zs k hlt)
        have hnl := bitsN_le zs[k]
        have HN := Lib.hid (show bitsI zs[k] (1 + (zs[k].tdiv 2 % 3)) = bitsL zs[k] (bitsN zs[k]) by
          unfold bitsI bitsN at *
          rw [if_pos (by omega)]
          congr 1
          omega)
        generalize ((zs.take k).flatMap fun z => bitsL z (bitsN z)) = F at *
        have hlb : (bitsL zs[k] (bitsN zs[k])).length ≤ 3 := by rw [bitsL_length]; omega
        have HC := Lib.hid hc
        have HZ := Lib.hid hz
        clear hc hz hnl
        have hbw := hb.size
        have hbl2 : b < wr.heap.size := by omega
        have g0 : (0 : Int) ≤ (k : Int) := by omega
        have g1 : (k : Int) < (zs.length : Int) := by omega
        have hq : IntKind.i64.wrap (zs[k].tdiv 2) = zs[k].tdiv 2 := by
          have := tdiv_two zs[k] hzk.1 hzk.2
          rw [IntKind.wrap_i64]; omega
        have hm0 : 0 ≤ zs[k].tdiv 2 % 3 := by omega
        have hm1 : zs[k].tdiv 2 % 3 < 3 := by omega
        have hw1 : IntKind.i64.wrap (1 + zs[k].tdiv 2 % 3) = 1 + zs[k].tdiv 2 % 3 := wrap_small _ (by omega) (by omega)
        have hadd : ∀ W : World, (Op.stringOp .add ⟨F.toArray⟩ ⟨(bitsL zs[k] (bitsN zs[k])).toArray⟩).run Try.prog W = .ok (.string ⟨(F ++ bitsL zs[k] (bitsN zs[k])).toArray⟩) W := fun W => by
          rw [run_string_add_sum W _ _ (by rw [size_mk, size_mk]; omega), app_mk]
        have hbi := HN.out
        go_wp2_with fail
        go_region_held3 (fun W => W.cell? ⟨b, off + k, none⟩ = some (.int .i64 zs[k]) ∧ Below w.heap.size w W)
          (first | exact ⟨hck, hb.drew⟩ | assumption | exact ⟨‹_›, ‹_›⟩)
          (first
          | (go_at_call 18; refine (within2_any _ _ _ ?_ ?_).mono ?_; omega; omega; rintro e wl ⟨rfl, rfl⟩)
          | (go_at_call 22; refine (rbits_any _ _ _).mono ?_; rintro e wl ⟨rfl, rfl⟩))
        clear hw1 hq hadd hbi
        go_wp2
        go_roundw
        case rel =>
          refine ⟨k + 1, by omega, by omega, by go_num, by rw [HT.out], ?_⟩
          go_split_ands
          assumption
        case measure => simp [intOf]; omega
      · have d2 : decide ((k : Int) < 80) = false := by simp; omega
        rw [bitsT_of zs k hk hk2 (.inr (by omega))]
        go_wp2
        go_ret
        exact ⟨rfl, hb⟩
    · have d1 : decide (k < zs.length) = false := by simpa using hlt
      rw [bitsT_of zs k hk hk2 (.inl (by omega))]
      go_wp2
      go_ret
      exact ⟨rfl, hb⟩

theorem known2_any (w : World) :
    Calls Try.prog 11 #[] w fun e w' => e = .returned (.bool true) ∧ Below w.heap.size w w' := by
  have h1 : sumI [] = 65535 := by decide
  have h2 : wrapL [] = [49, 49, 49, 49, 49, 49, 49, 49, 49, 49, 49, 49, 49, 49, 49, 49, 35] := by decide
  go_enter Try.func11, Try.ntmps11
  go_wp2_with fail
  refine (csum_any [] _ (by simp) (by simp [allBits])).mono ?_
  rintro e w2 ⟨rfl, hb⟩
  rw [h1]
  go_wp2_with fail
  refine (cwrap_any [] _ (by simp) (by simp [allBits])).mono ?_
  rintro e w3 ⟨rfl, hb2⟩
  rw [h2]
  go_wp2
  go_ret
  exact ⟨rfl, hb.trans (hb2.mono hb.size)⟩

end Go.Proofs.Ytholemhfbafipaa

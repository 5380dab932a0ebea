/-
  Contracts of sym.Bits and sym.Num: for every number, size and text; nothing that was in memory is changed.
-/
import Derived.Test.YtbghpkdkfbpmeaaGreatK2
import Derived.RegionTactic
import Derived.Deep.RegionHeld3
import Derived.Test.YtbghpkdkfbpmeaaGreatK1
namespace Go.Proofs.YtbghpkdkfbpmeaaGreat
open Go.RowKit Plait
set_option maxRecDepth 100000
set_option linter.unusedVariables false

/-- The loop of Bits: the row's first k places hold the first k bits. -/
def BitsAt (n : Int) (size : Nat) (w : World) (i : Value) (w' : World) : Prop :=
  ∃ (k : Nat) (A : Array Value), k ≤ size ∧ i = .int .i64 k ∧ w' = w.alloc (.cells A 5) ∧ A.size = size ∧ ∀ j, j < k → A[j]? = some (.int .u8 ((bitAt n size j).toNat : Int))

set_option maxHeartbeats 800000 in
theorem bits_in (n : Int) (size : Nat) (w : World) (h1 : 1 ≤ size) (h2 : size ≤ 62) :
    Calls Tryz.prog 72 #[.int .i64 n, .int .i64 size] w fun e w' => e = .returned (.string ⟨(bitsL n size).toArray⟩) ∧ Below w.heap.size w w' := by
  obtain ⟨M, hM, hM0, hmk⟩ := make_bytes size (by omega)
  have HM := Lib.hid hM
  clear hM hM0
  have d1 : decide ((size : Int) < 1) = false := by simp; omega
  have d2 : decide ((62 : Int) < (size : Int)) = false := by simp; omega
  go_enter Tryz.func72, Tryz.ntmps72
  go_wp2
  go_loopw [17] (fun i w' => BitsAt n size w i w') (fun i _ => size - (intOf i).toNat)
  case atStart => exact ⟨0, M, Nat.zero_le _, rfl, rfl, HM.out, fun j hj => absurd hj (by omega)⟩
  case round =>
    obtain ⟨k, A, hk, rfl, rfl, hA, hAj⟩ := hrel
    by_cases hlt : k < size
    · obtain ⟨v0, hc⟩ : ∃ v, (w.alloc (.cells A 5)).cell? ⟨w.heap.size, k, none⟩ = some v := ⟨A[k]'(by omega), by rw [World.cell?_alloc_mark]; exact Array.getElem?_eq_getElem (by omega)⟩
      have HA := Lib.hid hA
      have HAj := Lib.hid hAj
      clear hA hAj
      go_wp2
      go_roundw
      case rel =>
        refine ⟨k + 1, _, by omega, by go_num, rfl, by simpa using HA.out, fun j hj => ?_⟩
        rw [Array.getElem?_setIfInBounds]
        by_cases hjk : k = j
        · subst hjk
          have hs := HA.out
          rw [if_pos rfl, if_pos (by omega), and_one, bitAt_toNat]
          congr 2
          omega
        · rw [if_neg hjk]
          exact HAj.out j (by omega)
      case measure => simp [intOf]; omega
    · have hback : (convert 99 9 (.slice (some ⟨w.heap.size, 0, none⟩) size size)).run Tryz.prog (w.alloc (.cells A 5)) = .ok (.string ⟨(bitsL n size).toArray⟩) (w.alloc (.cells A 5)) := by
        have h := run_convert_bytes_back (P := Tryz.prog) (w.alloc (.cells A 5)) 99 9 5 ⟨w.heap.size, 0, none⟩ size (bitsL n size) Tryz.underlying99 Tryz.underlying5 Tryz.underlying9 (fun j hj => by
          rw [addr_add, Nat.zero_add, World.cell?_alloc_mark, bitsL_get]
          exact hAj j (by rw [bitsL_length] at hj; omega))
        rw [bitsL_length] at h
        exact h
      clear hA hAj
      go_wp2
      go_ret
      exact ⟨rfl, (Below.refl _ w).alloc (Nat.le_refl _) _⟩

theorem bits_any (n size : Int) (w : World) :
    Calls Tryz.prog 72 #[.int .i64 n, .int .i64 size] w fun e w' => e = .returned (.string ⟨(bitsI n size).toArray⟩) ∧ Below w.heap.size w w' := by
  by_cases h1 : size < 1
  · have HF := Lib.hid (show bitsI n size = [] by unfold bitsI; rw [if_neg (by omega)])
    go_enter Tryz.func72, Tryz.ntmps72
    go_wp2
    go_ret
    exact ⟨ret_str HF.out.symm, Below.refl _ _⟩
  by_cases h2 : 62 < size
  · have HF := Lib.hid (show bitsI n size = [] by unfold bitsI; rw [if_neg (by omega)])
    go_enter Tryz.func72, Tryz.ntmps72
    go_wp2
    go_ret
    exact ⟨ret_str HF.out.symm, Below.refl _ _⟩
  obtain ⟨k, rfl⟩ := Int.eq_ofNat_of_zero_le (by omega : 0 ≤ size)
  have HF := Lib.hid (show bitsI n k = bitsL n k by unfold bitsI; rw [if_pos (by omega)]; rfl)
  refine (bits_in n k w (by omega) (by omega)).mono ?_
  rintro e w' ⟨rfl, hb⟩
  exact ⟨ret_str HF.out.symm, hb⟩

end Go.Proofs.YtbghpkdkfbpmeaaGreat
/-
  Contract of sym.Num: for every text; nothing that was in memory is changed.
-/
namespace Go.Proofs.YtbghpkdkfbpmeaaGreat
open Go.RowKit Plait
set_option maxRecDepth 100000
set_option linter.unusedVariables false

/-- The loop of Num: where it stands, that all bytes ahead of it are bits, and what they mean. -/
def NumAt (l : List UInt8) (w : World) (n : Value) (w' : World) : Prop :=
  ∃ pos : Nat, pos ≤ l.length ∧ w' = w.iter ⟨l.toArray⟩ pos ∧ (∀ c ∈ l.take pos, bitB c = true) ∧ n = .int .i64 (numV (l.take pos))

/-- What Num answers. -/
def numR (l : List UInt8) : Value := if numOk l then .tuple #[.int .i64 (numV l), .bool true] else .tuple #[.int .i64 0, .bool false]

theorem numR_yes (l : List UInt8) (h1 : 1 ≤ l.length) (h2 : l.length ≤ 62) (hb : ∀ c ∈ l, bitB c = true) : numR l = .tuple #[.int .i64 (numV l), .bool true] := by
  have : numOk l = true := by simp [numOk, h1, h2]; exact hb
  rw [numR, if_pos this]

theorem numR_no (l : List UInt8) (h : numOk l = false) : numR l = .tuple #[.int .i64 0, .bool false] := by
  rw [numR, h]; rfl

theorem numOk_no (l : List UInt8) (k : Nat) (hk : k < l.length) (h : bitB l[k] = false) : numOk l = false := by
  rw [numOk, Bool.and_eq_false_iff]
  right
  rw [List.all_eq_false]
  exact ⟨l[k], List.getElem_mem hk, by rw [h]; decide⟩

theorem or_bit (N : Nat) (c : UInt8) (hN : N < 2305843009213693952) (hc : c.toNat = 48 ∨ c.toNat = 49) :
    bits .or .i64 ((N : Int) * 2) (wrap64 (wrap32 ((c.toNat : Int) - 48))) = ((2 * N + if c = 49 then 1 else 0 : Nat) : Int) := by
  have h2 : (2 : Int) ^ 63 = 9223372036854775808 := by decide
  have hb : ∀ y : Int, 0 ≤ y → y < 2 → bits .or .i64 ((N : Int) * 2) y = (N : Int) * 2 + y := fun y h0 h1 =>
    bits_join .i64 63 (by decide) (fun n h0 h1 => wrap_small n h0 (by rw [h2] at h1; exact h1)) 1 ((N : Int) * 2) y (by omega) (by omega) (by rw [h2]; omega) h0 (by omega) (by rw [h2]; omega)
  rcases hc with hc | hc
  · have : ¬ c = 49 := fun e => by rw [e] at hc; exact absurd hc (by decide)
    rw [hc, if_neg this, show wrap64 (wrap32 (((48 : Nat) : Int) - 48)) = 0 by simp [wrap64, wrap32], hb 0 (by decide) (by decide)]
    omega
  · have : c = 49 := UInt8.toNat_inj.1 hc
    rw [hc, if_pos this, show wrap64 (wrap32 (((49 : Nat) : Int) - 48)) = 1 by simp [wrap64, wrap32], hb 1 (by decide) (by decide)]
    omega

theorem numV_take (l : List UInt8) (k : Nat) (hk : k < l.length) : numV (l.take (k + 1)) = 2 * numV (l.take k) + if l[k] = 49 then 1 else 0 := by
  rw [List.take_succ_eq_append_getElem hk, numV_snoc]

end Go.Proofs.YtbghpkdkfbpmeaaGreat
/-
  Contracts of the reference's symbols: the same answers as package sym's, for every input; nothing that was in memory is changed.
-/
namespace Go.Proofs.YtbghpkdkfbpmeaaGreat
open Go.RowKit Plait
set_option maxRecDepth 100000
set_option linter.unusedVariables false

@[go_sem] theorem app_mk (x y : List UInt8) : (⟨x.toArray⟩ ++ ⟨y.toArray⟩ : ByteArray) = ⟨(x ++ y).toArray⟩ := ByteArray.mk_append_mk x y

theorem byte_ne (c : UInt8) (n : Nat) (hn : n < 256) (h : c ≠ UInt8.ofNat n) : ((c.toNat : Int) == (n : Int)) = false := by
  rw [beq_eq_false_iff_ne]
  intro e
  apply h
  apply UInt8.toNat_inj.1
  simp [UInt8.toNat_ofNat', Nat.mod_eq_of_lt hn]
  omega

theorem rsymbol_any (c : UInt8) (w : World) :
    Calls Tryz.prog 44 #[.int .u8 c.toNat] w fun e w' => e = .returned (.bool (bitB c || c == 35)) ∧ w = w' := by
  by_cases h1 : c = 48
  · subst h1
    go_enter Tryz.func44, Tryz.ntmps44
    go_wp2
    go_ret
    exact ⟨rfl, rfl⟩
  by_cases h2 : c = 49
  · subst h2
    go_enter Tryz.func44, Tryz.ntmps44
    go_wp2
    go_ret
    exact ⟨rfl, rfl⟩
  by_cases h3 : c = 35
  · subst h3
    go_enter Tryz.func44, Tryz.ntmps44
    go_wp2
    go_ret
    exact ⟨rfl, rfl⟩
  have d1 : ((c.toNat : Int) == 48) = false := byte_ne c 48 (by decide) h1
  have d2 : ((c.toNat : Int) == 49) = false := byte_ne c 49 (by decide) h2
  have d3 : ((c.toNat : Int) == 35) = false := byte_ne c 35 (by decide) h3
  have HF := Lib.hid (show (bitB c || c == 35) = false by simp [bitB, h1, h2, h3])
  clear h1 h2 h3
  go_enter Tryz.func44, Tryz.ntmps44
  go_wp2
  go_ret
  exact ⟨ret_bool HF.out.symm, rfl⟩

/-- The reference's loop: where it stands, and that all bytes ahead of it are bits. -/
def RCleanAt (l : List UInt8) (i : Value) : Prop := ∃ k : Nat, k ≤ l.length ∧ i = .int .i64 k ∧ ∀ c ∈ l.take k, bitB c = true

set_option maxHeartbeats 400000 in
theorem rclean_any (l : List UInt8) (w : World) (hs : l.length ≤ 1099511627776) :
    Calls Tryz.prog 23 #[.string ⟨l.toArray⟩] w fun e w' => e = .returned (.string ⟨(clean l).toArray⟩) ∧ w = w' := by
  go_enter Tryz.func23, Tryz.ntmps23
  go_wp2
  go_loop [3] (fun i => RCleanAt l i) (fun i => l.length - (intOf i).toNat)
  case atStart => exact ⟨0, Nat.zero_le _, rfl, by simp⟩
  case round =>
    obtain ⟨k, hk, rfl, hb⟩ := hrel
    have HB := Lib.hid hb
    clear hb
    by_cases hlt : k < l.length
    · by_cases h35 : l[k] = 35
      · have d1 : ((l[k].toNat : Int) == 35) = true := by simp [h35]
        have d2 : (bitB l[k] || l[k] == 35) = true := by simp [h35]
        have HF := Lib.hid (slen_at_tail l k hlt HB.out h35)
        clear h35
        go_wp2_with (go_at_call 44; refine (rsymbol_any _ _).mono ?_; rintro e w' ⟨rfl, rfl⟩; rw [d2])
        go_ret
        exact ⟨ret_str (by rw [clean, HF.out]), rfl⟩
      · have d1 : ((l[k].toNat : Int) == 35) = false := byte_ne _ 35 (by decide) h35
        by_cases hbit : bitB l[k] = true
        · have d2 : (bitB l[k] || l[k] == 35) = true := by simp [hbit]
          have HN := Lib.hid (bits_snoc l k hlt HB.out hbit)
          clear h35 hbit
          go_wp2_with (go_at_call 44; refine (rsymbol_any _ _).mono ?_; rintro e w' ⟨rfl, rfl⟩; rw [d2])
          go_round
          case rel => exact ⟨k + 1, by omega, by go_num, HN.out⟩
          case measure => simp [intOf]; omega
        · have d2 : (bitB l[k] || l[k] == 35) = false := by simp [hbit, h35]
          have HF := Lib.hid (slen_at_other l k hlt HB.out h35 (by simpa using hbit))
          clear h35 hbit
          go_wp2_with (go_at_call 44; refine (rsymbol_any _ _).mono ?_; rintro e w' ⟨rfl, rfl⟩; rw [d2])
          go_ret
          exact ⟨ret_str (by rw [clean, HF.out]), rfl⟩
    · have HF := Lib.hid (slen_at_end l (by rw [show l.length = k by omega]; exact HB.out))
      go_wp2
      go_ret
      exact ⟨ret_str (by rw [clean, HF.out, List.take_length]), rfl⟩

end Go.Proofs.YtbghpkdkfbpmeaaGreat
/-
  Contracts of the reference's symbols, the rest: Front, Whole, Turn, Bits, Num.
-/
namespace Go.Proofs.YtbghpkdkfbpmeaaGreat
open Go.RowKit Plait
set_option maxRecDepth 100000
set_option linter.unusedVariables false

theorem byte_eq (c : UInt8) (n : Nat) (h : n < 256) : ((c.toNat : Int) == (n : Int)) = (c == UInt8.ofNat n) := by
  rw [Bool.eq_iff_iff, beq_iff_eq, beq_iff_eq]
  constructor
  · intro e
    apply UInt8.toNat_inj.1
    simp [UInt8.toNat_ofNat', Nat.mod_eq_of_lt h]
    omega
  · rintro rfl
    simp [UInt8.toNat_ofNat', Nat.mod_eq_of_lt h]

theorem front_take (l m : List UInt8) (h : l.length ≤ m.length) : frontB l m = (m.take l.length == l) := by
  unfold frontB
  rw [Bool.eq_iff_iff, List.isPrefixOf_iff_prefix, beq_iff_eq, List.prefix_iff_eq_take]
  exact eq_comm

theorem front_long (l m : List UInt8) (h : m.length < l.length) : frontB l m = false := by
  unfold frontB
  rw [Bool.eq_false_iff]
  intro e
  have := (List.isPrefixOf_iff_prefix.1 e).length_le
  omega

theorem rfront_any (l m : List UInt8) (w : World) (hl : l.length ≤ 1099511627776) (hm : m.length ≤ 1099511627776) :
    Calls Tryz.prog 22 #[.string ⟨l.toArray⟩, .string ⟨m.toArray⟩] w fun e w' => e = .returned (.bool (frontB l m)) ∧ w = w' := by
  by_cases h : l.length ≤ m.length
  · have HF := Lib.hid (front_take l m h)
    have d : decide (l.length ≤ m.length) = true := by simpa using h
    go_enter Tryz.func22, Tryz.ntmps22
    go_wp2
    go_ret
    exact ⟨ret_bool HF.out.symm, rfl⟩
  · have HF := Lib.hid (front_long l m (by omega))
    have d : decide (l.length ≤ m.length) = false := by simpa using h
    go_enter Tryz.func22, Tryz.ntmps22
    go_wp2
    go_ret
    exact ⟨ret_bool HF.out.symm, rfl⟩

theorem clean_eq (l : List UInt8) : (clean l == l) = (slen l == l.length) := by
  have h := slen_le l
  rw [Bool.eq_iff_iff, beq_iff_eq, beq_iff_eq, clean]
  constructor
  · intro e
    have := congrArg List.length e
    rw [List.length_take] at this
    omega
  · intro e
    rw [e, List.take_length]

theorem last_get (l : List UInt8) (h : 0 < l.length) : l.getLast? = some (l[l.length - 1]) := by
  rw [List.getLast?_eq_getElem?, List.getElem?_eq_getElem]

theorem whole_last (l : List UInt8) (hpos : 0 < l.length) (h1 : slen l = l.length) : wholeB l = (l[l.length - 1]'(Nat.sub_lt hpos (by decide)) == 35) := by
  rw [wholeB, last_get l hpos, h1]; simp

theorem rwhole_any (l : List UInt8) (w : World) (hs : l.length ≤ 1099511627776) :
    Calls Tryz.prog 62 #[.string ⟨l.toArray⟩] w fun e w' => e = .returned (.bool (wholeB l)) ∧ w = w' := by
  by_cases h0 : l = []
  · subst h0
    go_enter Tryz.func62, Tryz.ntmps62
    go_wp2
    go_ret
    exact ⟨rfl, rfl⟩
  have hpos : 0 < l.length := List.length_pos_iff.2 h0
  have d0 : l.isEmpty = false := by simpa using h0
  by_cases h1 : slen l = l.length
  · have d1 : (clean l == l) = true := by rw [clean_eq]; simpa using h1
    have HF := Lib.hid (whole_last l hpos h1)
    clear h1
    go_enter Tryz.func62, Tryz.ntmps62
    go_wp2_with fail
    refine (rclean_any l _ hs).mono ?_
    rintro e w' ⟨rfl, rfl⟩
    go_wp2
    go_ret
    exact ⟨ret_bool (by rw [HF.out]; exact (byte_eq _ 35 (by decide))), rfl⟩
  · have d1 : (clean l == l) = false := by rw [clean_eq]; simpa using h1
    have HF := Lib.hid (show wholeB l = false by rw [wholeB]; simp [h1])
    clear h1
    go_enter Tryz.func62, Tryz.ntmps62
    go_wp2_with fail
    refine (rclean_any l _ hs).mono ?_
    rintro e w' ⟨rfl, rfl⟩
    go_wp2
    go_ret
    exact ⟨ret_bool HF.out.symm, rfl⟩

theorem rturn_in (l : List UInt8) (k : Nat) (h : k < l.length) : l.take k ++ [other l[k]] ++ l.drop (k + 1) = l.set k (other l[k]) := by
  rw [List.set_eq_take_append_cons_drop, if_pos h]
  simp

theorem drop_take_one (l : List UInt8) (k : Nat) (h : k < l.length) : (l.drop k).take 1 = [l[k]] := by
  rw [List.drop_eq_getElem_cons h]; rfl

theorem rturn_fin (l : List UInt8) (k : Nat) (d c : UInt8) (h : other c = d) : l.take k ++ d :: (l.drop (k + 1)).take (l.length - (k + 1)) = l.take k ++ [other c] ++ l.drop (k + 1) := by
  have e : (l.drop (k + 1)).take (l.length - (k + 1)) = l.drop (k + 1) := List.take_of_length_le (by rw [List.length_drop]; exact Nat.le_refl _)
  rw [e, h]; simp

set_option maxHeartbeats 800000 in
theorem rturn_core (l : List UInt8) (k : Nat) (c : UInt8) (w : World) (hs : l.length ≤ 1099511627776) (hk : k < l.length) (hd : (l.drop k).take 1 = [c]) :
    Calls Tryz.prog 24 #[.string ⟨l.toArray⟩, .int .i64 k] w fun e w' => e = .returned (.string ⟨(l.take k ++ [other c] ++ l.drop (k + 1)).toArray⟩) ∧ Below w.heap.size w w' := by
  have e1 : decide ((k : Int) < 0) = false := by simp
  have e2 : decide (l.length ≤ k) = false := by simp; omega
  by_cases h1 : c = 48
  · subst h1
    go_enter Tryz.func24, Tryz.ntmps24
    go_wp2
    go_quiet (fail)
    go_wp2
    go_ret
    exact ⟨ret_str (rturn_fin l k _ _ rfl), below_drewN (Below.refl _ _) _⟩
  by_cases h2 : c = 49
  · subst h2
    go_enter Tryz.func24, Tryz.ntmps24
    go_wp2
    go_quiet (fail)
    go_wp2
    go_ret
    exact ⟨ret_str (rturn_fin l k _ _ rfl), below_drewN (Below.refl _ _) _⟩
  by_cases h3 : c = 35
  · subst h3
    go_enter Tryz.func24, Tryz.ntmps24
    go_wp2
    go_quiet (fail)
    go_wp2
    go_ret
    exact ⟨ret_str (rturn_fin l k _ _ rfl), below_drewN (Below.refl _ _) _⟩
  have d1 : (c == 48) = false := by simpa using h1
  have d2 : (c == 49) = false := by simpa using h2
  have d3 : (c == 35) = false := by simpa using h3
  have HF := Lib.hid (show other c = c by simp [other, h1, h2, h3])
  clear h1 h2 h3
  go_enter Tryz.func24, Tryz.ntmps24
  go_wp2
  go_quiet (fail)
  go_wp2
  go_ret
  exact ⟨ret_str (rturn_fin l k _ _ HF.out), below_drewN (Below.refl _ _) _⟩

theorem rturn_any (l : List UInt8) (i : Int) (w : World) (hs : l.length ≤ 1099511627776) :
    Calls Tryz.prog 24 #[.string ⟨l.toArray⟩, .int .i64 i] w fun e w' => e = .returned (.string ⟨(turn l i).toArray⟩) ∧ Below w.heap.size w w' := by
  by_cases h0 : i < 0
  · have HF := Lib.hid (turn_out l i (.inl h0))
    go_enter Tryz.func24, Tryz.ntmps24
    go_wp2
    go_ret
    exact ⟨ret_str HF.out.symm, Below.refl _ _⟩
  by_cases h1 : (l.length : Int) ≤ i
  · have HF := Lib.hid (turn_out l i (.inr h1))
    go_enter Tryz.func24, Tryz.ntmps24
    go_wp2
    go_ret
    exact ⟨ret_str HF.out.symm, Below.refl _ _⟩
  obtain ⟨k, rfl⟩ := Int.eq_ofNat_of_zero_le (by omega : 0 ≤ i)
  have hk : k < l.length := by omega
  refine (rturn_core l k l[k] w hs hk (drop_take_one l k hk)).mono ?_
  rintro e w' ⟨rfl, hb⟩
  exact ⟨ret_str ((turn_in l k hk).trans (rturn_in l k hk).symm).symm, hb⟩

end Go.Proofs.YtbghpkdkfbpmeaaGreat
/-
  Contracts of the reference's Bits and Num.
-/
namespace Go.Proofs.YtbghpkdkfbpmeaaGreat
open Go.RowKit Plait
set_option maxRecDepth 100000
set_option linter.unusedVariables false

theorem bitsL_take (n : Int) (size k : Nat) (h : k < size) : (bitsL n size).take (k + 1) = (bitsL n size).take k ++ [bitAt n size k] := by
  rw [List.take_succ_eq_append_getElem (by rw [bitsL_length]; exact h), bitsL_get]

/-- The reference's loop of Bits: the first k bits are there. -/
def RBitsAt (n : Int) (size : Nat) (s i : Value) : Prop :=
  ∃ k : Nat, k ≤ size ∧ i = .int .i64 ((size : Int) - 1 - k) ∧ s = .string ⟨((bitsL n size).take k).toArray⟩

set_option maxHeartbeats 400000 in
theorem rbits_in (n : Int) (size : Nat) (w : World) (h1 : 1 ≤ size) (h2 : size ≤ 62) :
    Calls Tryz.prog 31 #[.int .i64 n, .int .i64 size] w fun e w' => e = .returned (.string ⟨(bitsL n size).toArray⟩) ∧ w = w' := by
  have d1 : decide ((size : Int) < 1) = false := by simp; omega
  have d2 : decide ((62 : Int) < (size : Int)) = false := by simp; omega
  go_enter Tryz.func31, Tryz.ntmps31
  go_wp2
  go_loop [5, 6] (fun s i => RBitsAt n size s i) (fun _ i => (intOf i + 1).toNat)
  case atStart => exact ⟨0, Nat.zero_le _, by simp, by simp⟩
  case round =>
    obtain ⟨k, hk, rfl, rfl⟩ := hrel
    have hlen : ((bitsL n size).take k).length ≤ 62 := by rw [List.length_take, bitsL_length]; omega
    by_cases hlt : k < size
    · obtain ⟨j, hj⟩ : ∃ j : Nat, (size : Int) - 1 - k = j := ⟨size - 1 - k, by omega⟩
      have hj2 : size - 1 - k = j := by omega
      have hT := bitsL_take n size k hlt
      rw [bitAt, hj2] at hT
      have HJ := Lib.hid hj
      have hjl : j ≤ 62 := by omega
      have hand := and_one (n / 2 ^ j)
      rw [hj]
      by_cases hb : n / 2 ^ j % 2 = 1
      · rw [if_pos hb] at hT
        have HT := Lib.hid hT
        have d3 : (n / 2 ^ j % 2 == 1) = true := by simpa using hb
        generalize (bitsL n size).take k = L at *
        clear hj hj2 hT hb
        go_wp2
        go_round
        case rel =>
          have e := HJ.out
          exact ⟨k + 1, by omega, congrArg (Value.int .i64) (by omega), by rw [HT.out]⟩
        case measure => simp [intOf]
      · rw [if_neg hb] at hT
        have HT := Lib.hid hT
        have d3 : (n / 2 ^ j % 2 == 1) = false := by simpa using hb
        generalize (bitsL n size).take k = L at *
        clear hj hj2 hT hb
        go_wp2
        go_round
        case rel =>
          have e := HJ.out
          exact ⟨k + 1, by omega, congrArg (Value.int .i64) (by omega), by rw [HT.out]⟩
        case measure => simp [intOf]
    · have hk' : (size : Int) - 1 - k = -1 := by omega
      rw [hk', List.take_of_length_le (by rw [bitsL_length]; omega)]
      clear hk' hlen
      go_wp2
      go_ret
      exact ⟨rfl, rfl⟩

theorem rbits_any (n size : Int) (w : World) :
    Calls Tryz.prog 31 #[.int .i64 n, .int .i64 size] w fun e w' => e = .returned (.string ⟨(bitsI n size).toArray⟩) ∧ w = w' := by
  by_cases h1 : size < 1
  · have HF := Lib.hid (show bitsI n size = [] by unfold bitsI; rw [if_neg (by omega)])
    go_enter Tryz.func31, Tryz.ntmps31
    go_wp2
    go_ret
    exact ⟨ret_str HF.out.symm, rfl⟩
  by_cases h2 : 62 < size
  · have HF := Lib.hid (show bitsI n size = [] by unfold bitsI; rw [if_neg (by omega)])
    go_enter Tryz.func31, Tryz.ntmps31
    go_wp2
    go_ret
    exact ⟨ret_str HF.out.symm, rfl⟩
  obtain ⟨k, rfl⟩ := Int.eq_ofNat_of_zero_le (by omega : 0 ≤ size)
  have HF := Lib.hid (show bitsI n k = bitsL n k by unfold bitsI; rw [if_pos (by omega)]; rfl)
  refine (rbits_in n k w (by omega) (by omega)).mono ?_
  rintro e w' ⟨rfl, hb⟩
  exact ⟨ret_str HF.out.symm, hb⟩

/-- The reference's loop of Num. -/
def RNumAt (l : List UInt8) (n i : Value) : Prop :=
  ∃ k : Nat, k ≤ l.length ∧ i = .int .i64 k ∧ (∀ c ∈ l.take k, bitB c = true) ∧ n = .int .i64 (numV (l.take k))

set_option maxHeartbeats 800000 in
theorem rnum_in (l : List UInt8) (w : World) (h1 : 1 ≤ l.length) (h2 : l.length ≤ 62) :
    Calls Tryz.prog 63 #[.string ⟨l.toArray⟩] w fun e w' => e = .returned (numR l) ∧ w = w' := by
  have d1 : decide ((l.length : Int) < 1) = false := by simp; omega
  have d2 : decide ((62 : Int) < (l.length : Int)) = false := by simp; omega
  go_enter Tryz.func63, Tryz.ntmps63
  go_wp2
  go_loop [4, 5] (fun n i => RNumAt l n i) (fun _ i => l.length - (intOf i).toNat)
  case atStart => exact ⟨0, Nat.zero_le _, rfl, by simp, rfl⟩
  case round =>
    obtain ⟨k, hp, rfl, hb, rfl⟩ := hrel
    have HB := Lib.hid hb
    clear hb
    have hv : numV (l.take k) < 2 ^ k := by have := numV_lt (l.take k); rwa [List.length_take, Nat.min_eq_left hp] at this
    have HV := Lib.hid hv
    clear hv
    by_cases hlt : k < l.length
    · have hv2 : numV (l.take k) < 2305843009213693952 := by
        have : (2 : Nat) ^ k ≤ 2 ^ 61 := Nat.pow_le_pow_right (by decide) (by omega)
        exact Nat.lt_of_lt_of_le HV.out this
      have hT := numV_take l k hlt
      by_cases h49 : l[k] = 49
      · rw [if_pos h49] at hT
        have HT := Lib.hid hT
        have HB2 := Lib.hid (bits_snoc l k hlt HB.out (by rw [h49]; decide))
        have e1 : ((l[k].toNat : Int) != 48) = true := by rw [h49]; decide
        have e2 : ((l[k].toNat : Int) != 49) = false := by rw [h49]; decide
        have e3 : ((l[k].toNat : Int) == 49) = true := by rw [h49]; decide
        generalize numV (l.take k) = N at *
        clear h49 hT
        go_wp2
        go_round
        case rel => exact ⟨k + 1, by omega, by go_num, HB2.out, by rw [HT.out]; go_num⟩
        case measure => simp [intOf]; omega
      · rw [if_neg h49] at hT
        have HT := Lib.hid hT
        have e3 : ((l[k].toNat : Int) == 49) = false := byte_ne _ 49 (by decide) h49
        have e2 : ((l[k].toNat : Int) != 49) = true := by rw [bne, e3]; rfl
        by_cases h48 : l[k] = 48
        · have HB2 := Lib.hid (bits_snoc l k hlt HB.out (by rw [h48]; decide))
          have e1 : ((l[k].toNat : Int) != 48) = false := by rw [h48]; decide
          generalize numV (l.take k) = N at *
          clear h48 h49 hT
          go_wp2
          go_round
          case rel => exact ⟨k + 1, by omega, by go_num, HB2.out, by rw [HT.out]; go_num⟩
          case measure => simp [intOf]; omega
        · have e1 : ((l[k].toNat : Int) != 48) = true := by
            have e0 : ((l[k].toNat : Int) == 48) = false := byte_ne _ 48 (by decide) h48
            rw [bne, e0]; rfl
          have HF := Lib.hid (numR_no l (numOk_no l k hlt (by simp [bitB, h48, h49])))
          generalize numV (l.take k) = N at *
          clear h48 h49 hT
          go_wp2
          go_ret2
          exact ⟨congrArg Ending.returned HF.out.symm, rfl⟩
    · have ht : l.take k = l := List.take_of_length_le (by omega)
      have HF := Lib.hid (numR_yes l h1 h2 (by have := HB.out; rw [ht] at this; exact this))
      rw [ht]
      clear ht
      go_wp2
      go_ret2
      exact ⟨congrArg Ending.returned HF.out.symm, rfl⟩

theorem rnum_any (l : List UInt8) (w : World) (hs : l.length ≤ 1099511627776) :
    Calls Tryz.prog 63 #[.string ⟨l.toArray⟩] w fun e w' => e = .returned (numR l) ∧ w = w' := by
  by_cases h1 : l.length < 1
  · have HF := Lib.hid (numR_no l (by simp [numOk]; omega))
    have d1 : decide ((l.length : Int) < 1) = true := by simp; omega
    go_enter Tryz.func63, Tryz.ntmps63
    go_wp2
    go_ret2
    exact ⟨congrArg Ending.returned HF.out.symm, rfl⟩
  by_cases h2 : 62 < l.length
  · have HF := Lib.hid (numR_no l (by simp [numOk]; omega))
    have d1 : decide ((l.length : Int) < 1) = false := by simp; omega
    have d2 : decide ((62 : Int) < (l.length : Int)) = true := by simp; omega
    go_enter Tryz.func63, Tryz.ntmps63
    go_wp2
    go_ret2
    exact ⟨congrArg Ending.returned HF.out.symm, rfl⟩
  exact rnum_in l w (by omega) (by omega)

end Go.Proofs.YtbghpkdkfbpmeaaGreat
/-
  Contracts of the reference's sums: Sum, Wrap, Open, for every text; nothing that was in memory is changed.
-/
namespace Go.Proofs.YtbghpkdkfbpmeaaGreat
open Go.RowKit Plait
set_option maxRecDepth 100000
set_option linter.unusedVariables false

theorem reg_out (R : BitVec 16) : ((R.toNat : Int) / 32768 == 1) = R.msb := by
  have h := R.isLt
  rw [BitVec.msb_eq_decide, Bool.eq_iff_iff, beq_iff_eq, decide_eq_true_iff]
  simp only [Nat.reducePow, Nat.reduceSub] at *
  omega

theorem reg_up (R : BitVec 16) : bits .and .i64 ((R.toNat : Int) * 2) 65535 = ((R <<< 1).toNat : Int) := by
  have h := and_mask ((R.toNat : Int) * 2) 16 (by decide)
  rw [show ((2 : Int) ^ 16 - 1) = 65535 by decide, show ((2 : Int) ^ 16) = 65536 by decide] at h
  rw [h, BitVec.toNat_shiftLeft, Nat.shiftLeft_eq]
  simp only [Nat.reducePow]
  omega

theorem wrap_xor (a b : Nat) (ha : a < 65536) (hb : b < 65536) : bits .xor .i64 (a : Int) (b : Int) = ((a ^^^ b : Nat) : Int) := by
  have hdef : bits .xor .i64 (a : Int) (b : Int) = IntKind.i64.wrap ((BitVec.ofInt 64 (a : Int) ^^^ BitVec.ofInt 64 (b : Int)).toNat : Int) := rfl
  have e : ∀ n : Nat, n < 65536 → (BitVec.ofInt 64 (n : Int)).toNat = n := by
    intro n hn
    rw [BitVec.toNat_ofInt]
    simp only [Nat.reducePow]
    omega
  have hx : a ^^^ b < 2 ^ 16 := Nat.xor_lt_two_pow (by simpa using ha) (by simpa using hb)
  rw [hdef, BitVec.toNat_xor, e a ha, e b hb, wrap_small _ (by omega) (by omega)]

theorem reg_laid (X : BitVec 16) : bits .xor .i64 (X.toNat : Int) 4129 = ((X ^^^ 0x1021#16).toNat : Int) := by
  have h := X.isLt
  have := wrap_xor X.toNat 4129 (by simpa using h) (by decide)
  rw [BitVec.toNat_xor]
  exact this

theorem step_if (R : BitVec 16) (b : Bool) : stepB R b = if R.msb != b then (R <<< 1) ^^^ 0x1021#16 else R <<< 1 := by
  unfold stepB L
  cases R.msb <;> cases b <;> simp [BitVec.xor_assoc]

theorem sum_take (l : List UInt8) (k : Nat) (h : k < l.length) : sumB (l.take (k + 1)) = stepB (sumB (l.take k)) (l[k] == 49) := by
  rw [List.take_succ_eq_append_getElem h, sum_append]
  rfl

theorem byte49 (c : UInt8) : ((c.toNat : Int) == 49) = (c == 49) := byte_eq c 49 (by decide)

/-- The loop of the reference's Sum. -/
def RSumAt (l : List UInt8) (r i : Value) : Prop := ∃ k : Nat, k ≤ l.length ∧ i = .int .i64 k ∧ r = .int .i64 ((sumB (l.take k)).toNat : Int)

set_option maxHeartbeats 800000 in
theorem rsum_any (l : List UInt8) (w : World) (hs : l.length ≤ 1099511627776) :
    Calls Tryz.prog 53 #[.string ⟨l.toArray⟩] w fun e w' => e = .returned (.int .i64 (sumI l)) ∧ w = w' := by
  go_enter Tryz.func53, Tryz.ntmps53
  go_wp2
  go_loop [3, 4] (fun r i => RSumAt l r i) (fun _ i => l.length - (intOf i).toNat)
  case atStart => exact ⟨0, Nat.zero_le _, rfl, by simp [sumB, vals, feed]⟩
  case round =>
    obtain ⟨k, hk, rfl, rfl⟩ := hrel
    by_cases hlt : k < l.length
    · have hT := sum_take l k hlt
      rw [step_if] at hT
      have h49 := byte49 l[k]
      have hx := (sumB (l.take k)).isLt
      have h1 := reg_out (sumB (l.take k))
      have h2 := reg_up (sumB (l.take k))
      have h3 := reg_laid (sumB (l.take k) <<< 1)
      have HN := Lib.hid (show (sumB (l.take (k + 1))).toNat = if (sumB (l.take k)).msb != (l[k] == 49) then ((sumB (l.take k) <<< 1) ^^^ 0x1021#16).toNat else (sumB (l.take k) <<< 1).toNat by rw [hT]; split <;> rfl)
      clear hT
      generalize ((sumB (l.take k) <<< 1) ^^^ 0x1021#16).toNat = z at *
      generalize (sumB (l.take k) <<< 1).toNat = y at *
      generalize (sumB (l.take k)).toNat = x at *
      generalize (sumB (l.take k)).msb = o at *
      generalize (l[k] == 49) = b at *
      have hx' : x ≤ 65535 := by simp only [Nat.reducePow] at hx; omega
      clear hx
      rw [bne] at HN
      cases hd : (o == b)
      · rw [hd, if_pos (by simp)] at HN
        go_wp2
        go_round
        case rel => exact ⟨k + 1, by omega, by go_num, by rw [HN.out]⟩
        case measure => simp [intOf]; omega
      · rw [hd, if_neg (by simp)] at HN
        go_wp2
        go_round
        case rel => exact ⟨k + 1, by omega, by go_num, by rw [HN.out]⟩
        case measure => simp [intOf]; omega
    · rw [show l.take k = l from List.take_of_length_le (by omega)]
      have HS := Lib.hid (show ((sumB l).toNat : Int) = sumI l from rfl)
      generalize (sumB l).toNat = x at *
      go_wp2
      go_ret
      exact ⟨ret_int HS.out, rfl⟩

theorem rwrap_any (l : List UInt8) (w : World) (hs : l.length ≤ 1048576) :
    Calls Tryz.prog 33 #[.string ⟨l.toArray⟩] w fun e w' => e = .returned (.string ⟨(wrapL l).toArray⟩) ∧ w = w' := by
  have hb : bitsI (sumI l) 16 = bitsL (sumI l) 16 := by unfold bitsI; rw [if_pos (by omega)]; rfl
  have hlb : (bitsL (sumI l) 16).length = 16 := bitsL_length _ _
  have HW := Lib.hid (show l ++ bitsL (sumI l) 16 ++ [35] = wrapL l from rfl)
  have HB := Lib.hid hb
  have hlb2 : (bitsL (sumI l) 16).length ≤ 16 := by omega
  clear hb hlb
  go_enter Tryz.func33, Tryz.ntmps33
  go_wp2_with fail
  refine (rsum_any l _ (by omega)).mono ?_
  rintro e w1 ⟨rfl, rfl⟩
  go_wp2_with fail
  refine (rbits_any _ _ _).mono ?_
  rintro e w1 ⟨rfl, rfl⟩
  rw [HB.out]
  generalize bitsL (sumI l) 16 = B at *
  go_wp2
  go_ret
  exact ⟨ret_str (by rw [← HW.out]; simp), rfl⟩

/-- What Open answers, as a value. -/
def openR (l : List UInt8) : Value := .tuple #[.string ⟨(openP l).1.toArray⟩, .int .i64 (openP l).2]

theorem openR_tail (l : List UInt8) (h : wholeB l = false) : openR l = .tuple #[.string ⟨#[]⟩, .int .i64 4] := by
  simp [openR, openP, h]
theorem openR_cut (l : List UInt8) (h : wholeB l = true) (h2 : l.length < 17) : openR l = .tuple #[.string ⟨#[]⟩, .int .i64 3] := by
  simp [openR, openP, h, h2]
theorem openR_sum (l : List UInt8) (n : Nat) (h : wholeB l = true) (h2 : l.length = n + 17) (h3 : ((l.drop n).take 16 == bitsL (sumI (l.take n)) 16) = false) : openR l = .tuple #[.string ⟨#[]⟩, .int .i64 5] := by
  have e : l.length - 17 = n := by omega
  have h3' : ¬ (l.drop n).take 16 = bitsL (sumI (l.take n)) 16 := by simpa using h3
  have h17 : ¬ l.length < 17 := by omega
  simp [openR, openP, h, h17, e, h3']
theorem openR_ok (l : List UInt8) (n : Nat) (h : wholeB l = true) (h2 : l.length = n + 17) (h3 : ((l.drop n).take 16 == bitsL (sumI (l.take n)) 16) = true) : openR l = .tuple #[.string ⟨(l.take n).toArray⟩, .int .i64 0] := by
  have e : l.length - 17 = n := by omega
  have h3' : (l.drop n).take 16 = bitsL (sumI (l.take n)) 16 := by simpa using h3
  have h17 : ¬ l.length < 17 := by omega
  simp [openR, openP, h, h17, e, h3']

set_option maxHeartbeats 1600000 in
theorem ropen_any (l : List UInt8) (w : World) (hs : l.length ≤ 1048576) :
    Calls Tryz.prog 45 #[.string ⟨l.toArray⟩] w fun e w' => e = .returned (openR l) ∧ Below w.heap.size w w' := by
  have hB : Below w.heap.size w w := Below.refl _ _
  by_cases hw : wholeB l = true
  · by_cases h17 : l.length < 17
    · have HF := Lib.hid (openR_cut l hw h17)
      have d : decide ((l.length : Int) - 1 - 16 < 0) = true := by simp; omega
      go_enter Tryz.func45, Tryz.ntmps45
      go_wp2_with fail
      refine (rwhole_any l _ (by omega)).mono ?_
      rintro e w1 ⟨rfl, rfl⟩
      rw [hw]
      clear hw
      go_wp2
      go_ret2
      exact ⟨congrArg Ending.returned HF.out.symm, hB⟩
    · obtain ⟨n, hn⟩ : ∃ n, l.length = n + 17 := ⟨l.length - 17, by omega⟩
      obtain ⟨m, hm⟩ : ∃ m, m = n + 16 := ⟨_, rfl⟩
      have r1 : (l.length : Int) - 1 = (m : Int) := by omega
      have r2 : (m : Int) - 16 = (n : Int) := by omega
      have r3 : m - n = 16 := by omega
      have r4 : IntKind.i64.wrap (m : Int) = (m : Int) := wrap_small _ (by omega) (by omega)
      have b1 : n ≤ l.length := by omega
      have b2 : m ≤ l.length := by omega
      have b3 : n ≤ m := by omega
      have g1 : (0 : Int) ≤ (n : Int) := by omega
      have g2 : (n : Int) ≤ (m : Int) := by omega
      have g3 : (m : Int) ≤ (l.length : Int) := by omega
      have g4 : (n : Int) ≤ (l.length : Int) := by omega
      have d : decide ((n : Int) < 0) = false := by simp
      have hb : bitsI (sumI (l.take n)) 16 = bitsL (sumI (l.take n)) 16 := by unfold bitsI; rw [if_pos (by omega)]; rfl
      have ht : (l.take n).length ≤ 1048576 := by rw [List.length_take]; omega
      have HN := Lib.hid hn
      cases h3 : ((l.drop n).take 16 == bitsL (sumI (l.take n)) 16)
      · have HF := Lib.hid (openR_sum l n hw hn h3)
        clear hn hm
        go_enter Tryz.func45, Tryz.ntmps45
        go_wp2_with fail
        refine (rwhole_any l _ (by omega)).mono ?_
        rintro e w1 ⟨rfl, rfl⟩
        rw [hw]
        clear hw
        go_wp2_with fail
        go_region_held3 (fun W => Below w.heap.size w W) (first | exact hB.drew | assumption)
          (first
          | (go_at_call 53; refine (rsum_any _ _ ?_).mono ?_; omega; rintro e wl ⟨rfl, rfl⟩)
          | (go_at_call 31; refine (rbits_any _ _ _).mono ?_; rintro e wl ⟨rfl, rfl⟩))
        go_wp2
        go_ret2
        exact ⟨congrArg Ending.returned HF.out.symm, by assumption⟩
      · have HF := Lib.hid (openR_ok l n hw hn h3)
        clear hn hm
        go_enter Tryz.func45, Tryz.ntmps45
        go_wp2_with fail
        refine (rwhole_any l _ (by omega)).mono ?_
        rintro e w1 ⟨rfl, rfl⟩
        rw [hw]
        clear hw
        go_wp2_with fail
        go_region_held3 (fun W => Below w.heap.size w W) (first | exact hB.drew | assumption)
          (first
          | (go_at_call 53; refine (rsum_any _ _ ?_).mono ?_; omega; rintro e wl ⟨rfl, rfl⟩)
          | (go_at_call 31; refine (rbits_any _ _ _).mono ?_; rintro e wl ⟨rfl, rfl⟩))
        go_wp2
        go_ret2
        exact ⟨congrArg Ending.returned HF.out.symm, by assumption⟩
  · have hw' : wholeB l = false := by simpa using hw
    have HF := Lib.hid (openR_tail l hw')
    go_enter Tryz.func45, Tryz.ntmps45
    go_wp2_with fail
    refine (rwhole_any l _ (by omega)).mono ?_
    rintro e w1 ⟨rfl, rfl⟩
    rw [hw']
    clear hw hw'
    go_wp2
    go_ret2
    exact ⟨congrArg Ending.returned HF.out.symm, hB⟩

end Go.Proofs.YtbghpkdkfbpmeaaGreat
/-
  Contracts of package crc: Sum of texts of bits, Wrap of them, Open of every text; nothing that was in memory is changed.
-/
namespace Go.Proofs.YtbghpkdkfbpmeaaGreat
open Go.RowKit Plait
set_option maxRecDepth 100000
set_option linter.unusedVariables false

theorem reg_top (R : BitVec 16) : (R.toNat : Int) / 32768 = if R.msb then 1 else 0 := by
  have h := reg_out R
  have hl := R.isLt
  simp only [Nat.reducePow] at hl
  cases hm : R.msb
  · rw [hm] at h; simp at h ⊢; omega
  · rw [hm] at h; simp at h ⊢; omega

theorem reg_up16 (R : BitVec 16) : IntKind.u16.wrap ((R.toNat : Int) * 2) = ((R <<< 1).toNat : Int) := by
  have hd : ∀ x : Int, IntKind.u16.wrap x = x % 65536 := fun x => by simp [IntKind.wrap, IntKind.signed, IntKind.bits]
  rw [hd, BitVec.toNat_shiftLeft, Nat.shiftLeft_eq]
  simp only [Nat.reducePow]
  omega

theorem reg_laid16 (X : BitVec 16) : bits .xor .u16 (X.toNat : Int) 4129 = ((X ^^^ 0x1021#16).toNat : Int) := by
  have h := X.isLt
  have hdef : bits .xor .u16 (X.toNat : Int) 4129 = IntKind.u16.wrap ((BitVec.ofInt 16 (X.toNat : Int) ^^^ BitVec.ofInt 16 4129).toNat : Int) := rfl
  have hd : ∀ x : Int, IntKind.u16.wrap x = x % 65536 := fun x => by simp [IntKind.wrap, IntKind.signed, IntKind.bits]
  have e : (BitVec.ofInt 16 (X.toNat : Int)).toNat = X.toNat := by
    rw [BitVec.toNat_ofInt]
    simp only [Nat.reducePow] at *
    omega
  have hx : X.toNat ^^^ 4129 < 2 ^ 16 := Nat.xor_lt_two_pow h (by decide)
  rw [hdef, BitVec.toNat_xor, BitVec.toNat_xor, e, hd, show (BitVec.ofInt 16 4129).toNat = 4129 by decide, show (0x1021#16).toNat = 4129 by decide]
  simp only [Nat.reducePow] at hx
  omega

set_option maxHeartbeats 800000 in
theorem step_any (R : BitVec 16) (c : UInt8) (w : World) (hc : bitB c = true) :
    Calls Tryz.prog 104 #[.int .u16 R.toNat, .int .i32 c.toNat] w fun e w' => e = .returned (.int .u16 (stepB R (c == 49)).toNat) ∧ w = w' := by
  have hbit := (bit_toNat _).1 hc
  have hx := R.isLt
  have h1 := reg_top R
  have h2 := reg_up16 R
  have h3 := reg_laid16 (R <<< 1)
  have HN := Lib.hid (show (stepB R (c == 49)).toNat = if R.msb != (c == 49) then ((R <<< 1) ^^^ 0x1021#16).toNat else (R <<< 1).toNat by rw [step_if]; split <;> rfl)
  have h4 : (c.toNat : Int) = 48 + if (c == 49) then 1 else 0 := by
    rcases hbit with h | h
    · rw [show (c == 49) = false by rw [beq_eq_false_iff_ne]; intro e; rw [e] at h; exact absurd h (by decide), h]; rfl
    · rw [show (c == 49) = true by rw [beq_iff_eq]; exact UInt8.toNat_inj.1 h, h]; rfl
  rw [h4]
  generalize (stepB R (c == 49)).toNat = q at *
  generalize ((R <<< 1) ^^^ 0x1021#16).toNat = z at *
  generalize (R <<< 1).toNat = y at *
  generalize R.toNat = x at *
  generalize R.msb = o at *
  generalize (c == 49) = b at *
  have hx' : x ≤ 65535 := by simp only [Nat.reducePow] at hx; omega
  clear hx hbit h4 hc
  cases o <;> cases b
  all_goals
    simp only [Bool.false_eq_true, if_true, if_false, bne_self_eq_false, Bool.bne_true, Bool.bne_false, Bool.not_false] at HN h1 ⊢
    go_enter Tryz.func104, Tryz.ntmps104
    go_wp2
    go_ret
    exact ⟨ret_int (by rw [HN.out]), rfl⟩

/-- The loop of Sum. -/
def SumAt (l : List UInt8) (w : World) (r : Value) (w' : World) : Prop :=
  ∃ k : Nat, k ≤ l.length ∧ w' = w.iter ⟨l.toArray⟩ k ∧ r = .int .u16 ((sumB (l.take k)).toNat : Int)

set_option maxHeartbeats 800000 in
theorem csum_any (l : List UInt8) (w : World) (hs : l.length ≤ 1048576) (hall : allBits l) :
    Calls Tryz.prog 101 #[.string ⟨l.toArray⟩] w fun e w' => e = .returned (.int .i64 (sumI l)) ∧ Below w.heap.size w w' := by
  have HA := Lib.hid hall
  clear hall
  go_enter Tryz.func101, Tryz.ntmps101
  go_wp2
  go_loopw [3] (fun r w' => SumAt l w r w') (fun _ w' => l.length - w'.iterPos w.heap.size)
  case atStart => exact ⟨0, Nat.zero_le _, rfl, by simp [sumB, vals, feed]⟩
  case round =>
    obtain ⟨k, hk, rfl, rfl⟩ := hrel
    by_cases hlt : k < l.length
    · have hB := HA.out l[k] (List.getElem_mem hlt)
      have hbit := (bit_toNat _).1 hB
      have hnx := next_ascii l w k hlt (by omega)
      have HT := Lib.hid (sum_take l k hlt)
      clear hbit
      generalize sumB (l.take k) = R at *
      go_wp2_with fail
      refine (step_any R l[k] _ hB).mono ?_
      rintro e wl ⟨rfl, rfl⟩
      rw [← HT.out]
      go_wp2
      go_roundw
      case rel => exact ⟨k + 1, by omega, rfl, rfl⟩
      case measure => simp; omega
    · have hnx := next_end l w k hlt
      rw [show l.take k = l from List.take_of_length_le (by omega)]
      have HS := Lib.hid (show ((sumB l).toNat : Int) = sumI l from rfl)
      have hx := (sumB l).isLt
      generalize (sumB l).toNat = x at *
      have hx' : x ≤ 65535 := by simp only [Nat.reducePow] at hx; omega
      clear hx
      go_wp2
      go_ret
      exact ⟨ret_int HS.out, below_iter _ _ _⟩

theorem csumBits_any (l : List UInt8) (w : World) (hs : l.length ≤ 1048576) (hall : allBits l) :
    Calls Tryz.prog 87 #[.string ⟨l.toArray⟩] w fun e w' => e = .returned (.string ⟨(bitsL (sumI l) 16).toArray⟩) ∧ Below w.heap.size w w' := by
  have hb : bitsI (sumI l) 16 = bitsL (sumI l) 16 := by unfold bitsI; rw [if_pos (by omega)]; rfl
  have HB := Lib.hid hb
  clear hb
  go_enter Tryz.func87, Tryz.ntmps87
  go_wp2_with fail
  refine (csum_any l _ (by omega) hall).mono ?_
  rintro e w1 ⟨rfl, hb1⟩
  go_wp2_with fail
  refine (bits_any _ _ _).mono ?_
  rintro e w2 ⟨rfl, hb2⟩
  rw [HB.out]
  go_wp2
  go_ret
  exact ⟨rfl, hb1.trans (hb2.mono hb1.size)⟩

theorem cwrap_any (l : List UInt8) (w : World) (hs : l.length ≤ 1048000) (hall : allBits l) :
    Calls Tryz.prog 74 #[.string ⟨l.toArray⟩] w fun e w' => e = .returned (.string ⟨(wrapL l).toArray⟩) ∧ Below w.heap.size w w' := by
  have hlb : (bitsL (sumI l) 16).length = 16 := bitsL_length _ _
  have HW := Lib.hid (show l ++ bitsL (sumI l) 16 ++ [35] = wrapL l from rfl)
  have hlb2 : (bitsL (sumI l) 16).length ≤ 16 := by omega
  clear hlb
  go_enter Tryz.func74, Tryz.ntmps74
  go_wp2_with fail
  refine (csumBits_any l _ (by omega) hall).mono ?_
  rintro e w1 ⟨rfl, hb1⟩
  generalize bitsL (sumI l) 16 = B at *
  go_wp2
  go_ret
  exact ⟨ret_str (by rw [← HW.out]; simp), hb1⟩

/-- The last 17 bytes of a whole text are the sum and the tail just where the 16 ahead of the tail are the sum. -/
theorem open_cmp (l : List UInt8) (n : Nat) (hw : wholeB l = true) (hn : l.length = n + 17) (B : List UInt8) (hB : B.length = 16) :
    ((l.drop n).take 17 == B ++ [35]) = ((l.drop n).take 16 == B) := by
  have hlast : l[n + 16]'(by omega) = 35 := by
    unfold wholeB at hw
    simp only [Bool.and_eq_true, beq_iff_eq] at hw
    have h := hw.1
    rw [List.getLast?_eq_getElem?, hn, List.getElem?_eq_getElem (by omega)] at h
    simpa using h
  have e : (l.drop n).take 17 = (l.drop n).take 16 ++ [35] := by
    rw [List.take_succ_eq_append_getElem (i := 16) (by simp; omega), List.getElem_drop, hlast]
  rw [e, Bool.eq_iff_iff, beq_iff_eq, beq_iff_eq]
  exact ⟨fun h => List.append_cancel_right h, fun h => by rw [h]⟩

theorem add_run (x y : List UInt8) (hx : x.length ≤ 1000) (hy : y.length ≤ 1000) : ∀ W : World, (Op.stringOp .add ⟨x.toArray⟩ ⟨y.toArray⟩).run Tryz.prog W = .ok (.string ⟨(x ++ y).toArray⟩) W := fun W => by
  rw [run_string_add_sum W _ _ (by rw [size_mk, size_mk]; omega), app_mk]

set_option maxHeartbeats 1600000 in
theorem copen_any (l : List UInt8) (w : World) (hs : l.length ≤ 1048576) :
    Calls Tryz.prog 79 #[.string ⟨l.toArray⟩] w fun e w' => e = .returned (openR l) ∧ Below w.heap.size w w' := by
  have hB : Below w.heap.size w w := Below.refl _ _
  by_cases hw : wholeB l = true
  · by_cases h17 : l.length < 17
    · have HF := Lib.hid (openR_cut l hw h17)
      have d : decide ((l.length : Int) - 1 - 16 < 0) = true := by simp; omega
      go_enter Tryz.func79, Tryz.ntmps79
      go_wp2_with fail
      refine (whole_any l _ (by omega)).mono ?_
      rintro e wn ⟨rfl, hb⟩
      replace hB := hB.trans (hb.mono hB.size)
      clear hb
      rw [hw]
      clear hw
      go_wp2
      go_ret2
      exact ⟨congrArg Ending.returned HF.out.symm, hB⟩
    · obtain ⟨n, hn⟩ : ∃ n, l.length = n + 17 := ⟨l.length - 17, by omega⟩
      have r0 : (l.length : Int) - 1 - 16 = (n : Int) := by omega
      have r3 : l.length - n = 17 := by omega
      have b1 : n ≤ l.length := by omega
      have g1 : (0 : Int) ≤ (n : Int) := by omega
      have g4 : (n : Int) ≤ (l.length : Int) := by omega
      have d : decide ((n : Int) < 0) = false := by simp
      have ht : (l.take n).length ≤ 1048576 := by rw [List.length_take]; omega
      have HN := Lib.hid hn
      have HA := Lib.hid (whole_take l n hw (by omega))
      have hc := open_cmp l n hw hn (bitsL (sumI (l.take n)) 16) (bitsL_length _ _)
      have hlB : (bitsL (sumI (l.take n)) 16).length ≤ 16 := by rw [bitsL_length]; omega
      have HS := Lib.hid (openR_sum l n hw hn)
      have HO := Lib.hid (openR_ok l n hw hn)
      have HR := Lib.hid (csumBits_any (l.take n))
      generalize bitsL (sumI (l.take n)) 16 = B at *
      have ad := add_run B [35] (by omega) (by simp)
      cases h3 : ((l.drop n).take 16 == B)
      · have HF := Lib.hid (HS.out h3)
        rw [h3] at hc
        clear hn HS HO h3
        go_enter Tryz.func79, Tryz.ntmps79
        go_wp2_with fail
        refine (whole_any l _ (by omega)).mono ?_
        rintro e wn ⟨rfl, hb⟩
        replace hB := hB.trans (hb.mono hB.size)
        clear hb
        rw [hw]
        clear hw
        go_wp2_with fail
        go_region_held3 (fun W => Below w.heap.size w W) (first | exact hB.drew | assumption | exact Below.trans ‹_› (hbm.mono (Below.size ‹_›)))
          (first
          | (go_at_call 87; refine (HR.out _ ?_ HA.out).mono ?_; omega; rintro e wm ⟨rfl, hbm⟩))
        go_wp2
        go_ret2
        exact ⟨congrArg Ending.returned HF.out.symm, by assumption⟩
      · have HF := Lib.hid (HO.out h3)
        rw [h3] at hc
        clear hn HS HO h3
        go_enter Tryz.func79, Tryz.ntmps79
        go_wp2_with fail
        refine (whole_any l _ (by omega)).mono ?_
        rintro e wn ⟨rfl, hb⟩
        replace hB := hB.trans (hb.mono hB.size)
        clear hb
        rw [hw]
        clear hw
        go_wp2_with fail
        go_region_held3 (fun W => Below w.heap.size w W) (first | exact hB.drew | assumption | exact Below.trans ‹_› (hbm.mono (Below.size ‹_›)))
          (first
          | (go_at_call 87; refine (HR.out _ ?_ HA.out).mono ?_; omega; rintro e wm ⟨rfl, hbm⟩))
        go_wp2_with fail
        refine (clone_any _ _ (by rw [size_mk]; omega)).mono ?_
        rintro e wq ⟨rfl, hbq⟩
        go_wp2
        go_ret2
        exact ⟨congrArg Ending.returned HF.out.symm, Below.trans ‹_› (hbq.mono (Below.size ‹_›))⟩
  · have hw' : wholeB l = false := by simpa using hw
    have HF := Lib.hid (openR_tail l hw')
    go_enter Tryz.func79, Tryz.ntmps79
    go_wp2_with fail
    refine (whole_any l _ (by omega)).mono ?_
    rintro e wn ⟨rfl, hb⟩
    replace hB := hB.trans (hb.mono hB.size)
    clear hb
    rw [hw']
    clear hw hw'
    go_wp2
    go_ret2
    exact ⟨congrArg Ending.returned HF.out.symm, hB⟩

end Go.Proofs.YtbghpkdkfbpmeaaGreat
/-
  Frames as they lie in memory: rows of items, boxes of frames.
-/
namespace Go.Proofs.YtbghpkdkfbpmeaaGreat
open Go.RowKit Plait
set_option maxRecDepth 100000
set_option linter.unusedVariables false

/-- A slice of items as it lies in memory. -/
def RowT (w : World) (a : Option Addr) (ts : List It) : Prop :=
  ts.length ≤ 9223372036854775807 ∧ (∀ t ∈ ts, inI t.K ∧ inI t.V) ∧
  (ts = [] ∨ ∃ b off : Nat, a = some ⟨b, off, none⟩ ∧ b < w.heap.size ∧ ∀ i (h : i < ts.length), w.cell? ⟨b, off + i * 2, none⟩ = some (.int .i64 ts[i].K) ∧ w.cell? ⟨b, off + i * 2 + 1, none⟩ = some (.int .i64 ts[i].V))

theorem RowT.later {w w1 : World} {a : Option Addr} {ts : List It} (h : RowT w a ts) (hb : Below w.heap.size w w1) : RowT w1 a ts := by
  obtain ⟨h1, h2, h3⟩ := h
  refine ⟨h1, h2, ?_⟩
  rcases h3 with h3 | ⟨b, off, e, hlt, hc⟩
  · exact .inl h3
  · exact .inr ⟨b, off, e, Nat.lt_of_lt_of_le hlt hb.size, fun i hi => ⟨by rw [hb.cell (p := ⟨b, off + i * 2, none⟩) hlt]; exact (hc i hi).1, by rw [hb.cell (p := ⟨b, off + i * 2 + 1, none⟩) hlt]; exact (hc i hi).2⟩⟩
theorem RowT.empty (w : World) (a : Option Addr) : RowT w a [] := ⟨by simp, by simp, .inl rfl⟩
theorem RowT.drew1 {w : World} {a : Option Addr} {ts : List It} (h : RowT w a ts) : RowT w.drew a ts := h.later (Below.refl _ _).drew
theorem RowT.drewN {w : World} {a : Option Addr} {ts : List It} (h : RowT w a ts) (n : Nat) : RowT (w.drewN n) a ts := h.later (below_drewN (Below.refl _ _) n)
theorem RowT.alloc {w : World} {a : Option Addr} {ts : List It} (h : RowT w a ts) (o : Obj) : RowT (w.alloc o) a ts := h.later ((Below.refl _ _).alloc (Nat.le_refl _) _)
theorem RowT.get {w : World} {a : Option Addr} {ts : List It} (h : RowT w a ts) (k : Nat) (hk : k < ts.length) :
    ∃ b off : Nat, a = some ⟨b, off, none⟩ ∧ b < w.heap.size ∧ w.cell? ⟨b, off + k * 2, none⟩ = some (.int .i64 ts[k].K) ∧ w.cell? ⟨b, off + k * 2 + 1, none⟩ = some (.int .i64 ts[k].V) ∧ inI ts[k].K ∧ inI ts[k].V := by
  obtain ⟨_, h2, h3⟩ := h
  rcases h3 with h3 | ⟨b, off, e, hlt, hc⟩
  · rw [h3] at hk; simp at hk
  · exact ⟨b, off, e, hlt, (hc k hk).1, (hc k hk).2, (h2 _ (List.getElem_mem hk)).1, (h2 _ (List.getElem_mem hk)).2⟩

/-- The cells of a frame's box. -/
def frBox (f : Fr) (a : Option Addr) (cap : Nat) : Array Value := #[.int .i64 f.K, .int .i64 f.R, .int .i64 f.S, .int .i64 f.P.K, .int .i64 f.P.V, .slice a f.E.length cap]

theorem ret_str5 {a b : List UInt8} (h : a = b) : Ending.returned (.string ⟨a.toArray⟩) = .returned (.string ⟨b.toArray⟩) := by rw [h]

/-- A call in a quiet region, by a contract that leaves the world. -/
theorem quiet_same5 {P : Program} {f : FuncId} {args : Array Value} {w : World} {n : Nat} {v : Value} (h : Calls P f args (w.drewN n) fun e w' => e = .returned v ∧ w.drewN n = w') : Calls P f args (w.drewN n) fun e w'' => e = .returned v ∧ ∃ m, w'' = w.drewN m :=
  h.mono fun _ _ ⟨he, hm⟩ => ⟨he, n, hm.symm⟩

theorem ritem_any (i : It) (b : Bool) (w : World) :
    Calls Tryz.prog 64 #[.agg #[.int .i64 i.K, .int .i64 i.V], .bool b] w fun e w' => e = .returned (.bool (itemB i b)) ∧ Below w.heap.size w w' := by
  by_cases k0 : i.K = 0
  · have HF := Lib.hid (show itemB i b = (i.V == 0 && !b) by unfold itemB; rw [if_pos k0])
    have c0 : (i.K == 0) = true := by simpa using k0
    clear k0
    cases hv : (i.V == 0)
    · rw [hv] at HF
      go_enter Tryz.func64, Tryz.ntmps64
      go_wp2
      go_ret
      exact ⟨ret_bool (by rw [HF.out]; rfl), alloc_below _ _⟩
    · rw [hv] at HF
      go_enter Tryz.func64, Tryz.ntmps64
      go_wp2
      go_ret
      exact ⟨ret_bool (by rw [HF.out]; simp), alloc_below _ _⟩
  · have c0 : (i.K == 0) = false := by simpa using k0
    by_cases k1 : i.K = 1
    · have HF := Lib.hid (show itemB i b = (i.V == 0) by unfold itemB; rw [if_neg k0, if_pos k1])
      have c1 : (i.K == 1) = true := by simpa using k1
      clear k0 k1
      go_enter Tryz.func64, Tryz.ntmps64
      go_wp2
      go_ret
      exact ⟨ret_bool HF.out.symm, alloc_below _ _⟩
    · have c1 : (i.K == 1) = false := by simpa using k1
      by_cases k2 : i.K = 2
      · have HF := Lib.hid (show itemB i b = (decide (0 ≤ i.V) && decide (i.V ≤ 255)) by unfold itemB; rw [if_neg k0, if_neg k1, if_pos k2])
        have c2 : (i.K == 2) = true := by simpa using k2
        clear k0 k1 k2
        cases hv : decide (0 ≤ i.V)
        · rw [hv] at HF
          go_enter Tryz.func64, Tryz.ntmps64
          go_wp2
          go_ret
          exact ⟨ret_bool (by rw [HF.out]; rfl), alloc_below _ _⟩
        · rw [hv] at HF
          go_enter Tryz.func64, Tryz.ntmps64
          go_wp2
          go_ret
          exact ⟨ret_bool (by rw [HF.out]; simp), alloc_below _ _⟩
      · have HF := Lib.hid (show itemB i b = false by unfold itemB; rw [if_neg k0, if_neg k1, if_neg k2])
        have c2 : (i.K == 2) = false := by simpa using k2
        clear k0 k1 k2
        go_enter Tryz.func64, Tryz.ntmps64
        go_wp2
        go_ret
        exact ⟨ret_bool HF.out.symm, alloc_below _ _⟩

theorem rechoes_any (c : Cf) (a : Option Addr) (cap : Nat) (k s : Int) (w : World) (hc : c.Ok) :
    Calls Tryz.prog 48 #[.agg #[.int .i64 c.N, .int .i64 c.Pi, .int .i64 c.E, .int .i64 c.G, .int .i64 c.F, .slice a c.P.length cap], .int .i64 k, .int .i64 s] w fun e w' => e = .returned (.int .i64 (echoI c k s)) ∧ Below w.heap.size w w' := by
  by_cases h3 : k = 3
  · have c3 : (k == 3) = true := by simpa using h3
    by_cases hs : s < c.N
    · have HF := Lib.hid (show echoI c k s = slotsI c by unfold echoI; rw [if_pos ⟨h3, hs⟩])
      have d1 : decide (s < c.N) = true := by simpa using hs
      clear h3
      go_enter Tryz.func48, Tryz.ntmps48
      go_wp2_with fail
      refine (rslots_any c a cap _ hc).mono ?_
      rintro e wn ⟨rfl, hb⟩
      obtain ⟨hB, hK, hZ⟩ := boxed hb
      have hQ := hK.at
      clear hb
      go_wp2
      go_ret
      exact ⟨ret_int HF.out.symm, hB⟩
    · have HF := Lib.hid (show echoI c k s = 0 by unfold echoI; rw [if_neg (by simp [hs])])
      have d1 : decide (s < c.N) = false := by simpa using hs
      clear h3
      go_enter Tryz.func48, Tryz.ntmps48
      go_wp2
      go_ret
      exact ⟨ret_int HF.out.symm, alloc_below _ _⟩
  · have HF := Lib.hid (show echoI c k s = 0 by unfold echoI; rw [if_neg (by simp [h3])])
    have c3 : (k == 3) = false := by simpa using h3
    clear h3
    go_enter Tryz.func48, Tryz.ntmps48
    go_wp2
    go_ret
    exact ⟨ret_int HF.out.symm, alloc_below _ _⟩

theorem bitsI_of (x : Int) (k : Nat) (h1 : 1 ≤ k) (h2 : k ≤ 62) : bitsI x (k : Int) = bitsL x k := by unfold bitsI; rw [if_pos (by omega)]; rfl

theorem bitsI_len (x s : Int) : (bitsI x s).length ≤ 62 := by
  unfold bitsI
  split
  · rw [bitsL_length]; omega
  · simp

set_option maxHeartbeats 1600000 in
theorem rbits5_any (i : It) (w : World) :
    Calls Tryz.prog 32 #[.agg #[.int .i64 i.K, .int .i64 i.V]] w fun e w' => e = .returned (.string ⟨(itBits i).toArray⟩) ∧ Below w.heap.size w w' := by
  have HF := Lib.hid (show bitsI i.K 2 ++ bitsI i.V 8 = itBits i by rw [show bitsI i.K 2 = bitsL i.K 2 from bitsI_of i.K 2 (by omega) (by omega), show bitsI i.V 8 = bitsL i.V 8 from bitsI_of i.V 8 (by omega) (by omega)]; rfl)
  have h2 := bitsI_len i.K 2
  have h8 := bitsI_len i.V 8
  have hrun := fun W : World => add_run (bitsI i.K 2) (bitsI i.V 8) (by omega) (by omega) W
  go_enter Tryz.func32, Tryz.ntmps32
  go_wp2_with fail
  go_quiet (first | (go_at_call 31; refine quiet_same5 (rbits_any _ _ _)))
  go_wp2
  go_ret
  exact ⟨ret_str5 HF.out, below_drewN (alloc_below _ _) _⟩

end Go.Proofs.YtbghpkdkfbpmeaaGreat
/-
  Classes of worlds by what holds on in them; facts that hold on where a call makes memory alone.
-/
namespace Go.Proofs.YtbghpkdkfbpmeaaGreat
open Go.RowKit Plait
set_option maxRecDepth 100000
set_option linter.unusedVariables false

/-- A fact that holds on where all that lay is as it was. -/
def Stable (R : World → Prop) : Prop := ∀ W W', R W → Below W.heap.size W W' → R W'

theorem stable_and {R S : World → Prop} (h : Stable R) (k : Stable S) : Stable fun W => R W ∧ S W := fun W W' ⟨a, b⟩ hb => ⟨h W W' a hb, k W W' b hb⟩
theorem stable_below (w : World) : Stable fun W => Below w.heap.size w W := fun W W' a hb => a.trans (hb.mono a.size)
theorem stable_blk (g : Nat) (t : TypeId) (cs : Array Value) : Stable fun W => Blk W g t cs := fun W W' a hb => a.later hb
theorem stable_row (a : Option Addr) (zs : List Int) : Stable fun W => Row W a zs := fun W W' h hb => h.later hb
theorem stable_rowT (a : Option Addr) (ts : List It) : Stable fun W => RowT W a ts := fun W W' h hb => h.later hb

theorem class_any (w : World) {R : World → Prop} (hR : Stable R) (h : R w) : ∃ (I : Type) (F : I → World) (i0 : I), F i0 = w.drew ∧ (∀ i, R (F i)) ∧ (∀ i w', Below (F i).heap.size (F i) w' → ∃ j, w' = F j) :=
  class_of w R (hR w _ h (Below.refl _ _).drew) hR

end Go.Proofs.YtbghpkdkfbpmeaaGreat

/-
  Contracts of package lane: what each call answers, for every input; a step changes its own relay alone.
-/
import Derived.Test.YtaekdfjecokpmaaSym2
import Derived.Test.YtaekdfjecokpmaaLa1
namespace Go.Proofs.Ytaekdfjecokpmaa
open Go.RowKit Plait
set_option maxRecDepth 100000
set_option linter.unusedVariables false

/-- A rune below 256 as a text. -/
def encL (c : UInt8) : List UInt8 := if c.toNat < 128 then [c] else [UInt8.ofNat (192 + c.toNat / 64), UInt8.ofNat (128 + c.toNat % 64)]

theorem enc_fin : ∀ n : Fin 256, Utf8.encode (n.val : Int) = ⟨(encL (UInt8.ofNat n.val)).toArray⟩ := by decide +kernel
theorem enc_eq (c : UInt8) : Utf8.encode (c.toNat : Int) = ⟨(encL c).toArray⟩ := by
  have h := enc_fin ⟨c.toNat, c.toNat_lt⟩
  simpa using h

theorem encClean_fin : ∀ n : Fin 256, (clean (encL (UInt8.ofNat n.val)) == []) = !symB (UInt8.ofNat n.val) := by decide +kernel
theorem encClean (c : UInt8) : (clean (encL c) == []) = !symB c := by
  have h := encClean_fin ⟨c.toNat, c.toNat_lt⟩
  simpa using h

theorem encWhole_fin : ∀ n : Fin 256, wholeB (encL (UInt8.ofNat n.val)) = (UInt8.ofNat n.val == 35) := by decide +kernel
theorem encWhole (c : UInt8) : wholeB (encL c) = (c == 35) := by
  have h := encWhole_fin ⟨c.toNat, c.toNat_lt⟩
  simpa using h

theorem encL_len (c : UInt8) : (encL c).length ≤ 2 := by unfold encL; split <;> simp

theorem lisSymbol_any (c : UInt8) (w : World) :
    Calls Try.prog 31 #[.int .i32 c.toNat] w fun e w' => e = .returned (.bool (symB c)) ∧ Below w.heap.size w w' := by
  have he := enc_eq c
  have hl := encL_len c
  have hc := encClean c
  go_enter Try.func31, Try.ntmps31
  go_wp2_with fail
  refine (clean_any _ _ (by omega)).mono ?_
  rintro e w2 ⟨rfl, hb⟩
  go_wp2
  go_ret
  exact ⟨rfl, hb⟩

theorem lisTail_any (c : UInt8) (w : World) :
    Calls Try.prog 25 #[.int .i32 c.toNat] w fun e w' => e = .returned (.bool (c == 35)) ∧ Below w.heap.size w w' := by
  have he := enc_eq c
  have hl := encL_len c
  have hc := encWhole c
  go_enter Try.func25, Try.ntmps25
  go_wp2_with fail
  refine (whole_any _ _ (by omega)).mono ?_
  rintro e w2 ⟨rfl, hb⟩
  rw [hc]
  go_wp2
  go_ret
  exact ⟨rfl, hb⟩

theorem lisSent_any (d s : UInt8) (w : World) :
    Calls Try.prog 29 #[.agg #[.int .i32 d.toNat, .int .i32 s.toNat]] w fun e w' => e = .returned (.bool (symB d)) ∧ Below w.heap.size w w' := by
  have hB : Below w.heap.size w w := Below.refl _ _
  go_enter Try.func29, Try.ntmps29
  go_wp2_with fail
  refine (lisSymbol_any d _).mono ?_
  rintro e w2 ⟨rfl, hb⟩
  go_wp2
  go_ret
  exact ⟨rfl, (alloc_below w _).trans (hb.mono (alloc_below w _).size)⟩

theorem lisAgreed_any (d s : UInt8) (w : World) :
    Calls Try.prog 28 #[.agg #[.int .i32 d.toNat, .int .i32 s.toNat]] w fun e w' => e = .returned (.bool (symB d && d == s)) ∧ Below w.heap.size w w' := by
  have hK : Blk (w.alloc (.cells #[.int .i32 d.toNat, .int .i32 s.toNat] 49)) w.heap.size 49 #[.int .i32 d.toNat, .int .i32 s.toNat] := Blk.new w _ _
  cases hs : symB d
  · go_enter Try.func28, Try.ntmps28
    go_wp2_with fail
    refine (lisSent_any d s _).mono ?_
    rintro e w2 ⟨rfl, hb⟩
    rw [hs]
    go_wp2
    go_ret
    exact ⟨rfl, (alloc_below w _).trans (hb.mono (alloc_below w _).size)⟩
  · have hd : ((s.toNat : Int) == (d.toNat : Int)) = (d == s) := by
      rw [Bool.eq_iff_iff, beq_iff_eq, beq_iff_eq]
      constructor
      · intro h; exact (UInt8.toNat_inj.1 (by omega)).symm
      · rintro rfl; rfl
    go_enter Try.func28, Try.ntmps28
    go_wp2_with fail
    refine (lisSent_any d s _).mono ?_
    rintro e w2 ⟨rfl, hb⟩
    rw [hs]
    have hK2 := (hK.later hb).at
    clear hK
    go_wp2
    go_ret
    exact ⟨rfl, (alloc_below w _).trans (hb.mono (alloc_below w _).size)⟩

def ruleF (cmp : Bool) : Nat := if cmp then 28 else 29

theorem lrule_any (g : Nat) (cmp over : Bool) (w : World) (hK : Blk w g 45 #[.bool cmp, .bool over]) :
    Calls Try.prog 24 #[.pointer (some ⟨g, 0, none⟩)] w fun e w' => e = .returned (.func (.func (ruleF cmp)) #[] #[]) ∧ w = w' := by
  have hq := hK.at
  cases cmp
  · go_enter Try.func24, Try.ntmps24
    go_wp2
    go_ret
    exact ⟨rfl, rfl⟩
  · go_enter Try.func24, Try.ntmps24
    go_wp2
    go_ret
    exact ⟨rfl, rfl⟩

theorem lNew_any (cmp : Bool) (w : World) :
    Calls Try.prog 13 #[.bool cmp] w fun e w' => e = .returned (.pointer (some ⟨w.heap.size, 0, none⟩)) ∧ w' = w.alloc (.cells #[.bool cmp, .bool false] 45) := by
  go_enter Try.func13, Try.ntmps13
  go_wp2
  go_ret
  exact ⟨rfl, rfl⟩

theorem lat_any (l : List UInt8) (i : Nat) (w : World) (hs : l.length ≤ 1099511627776) (hi : i ≤ 1099511627776) :
    Calls Try.prog 22 #[.string ⟨l.toArray⟩, .int .i64 i] w fun e w' => e = .returned (.int .u8 (padL l i).toNat) ∧ w = w' := by
  by_cases h : i < l.length
  · have d1 : decide (i < l.length) = true := by simpa using h
    have hp := padL_in l i h
    rw [hp]
    go_enter Try.func22, Try.ntmps22
    go_wp2
    go_ret
    exact ⟨rfl, rfl⟩
  · have d1 : decide (i < l.length) = false := by simpa using h
    have hp := padL_out l i h
    rw [hp]
    clear hp
    go_enter Try.func22, Try.ntmps22
    go_wp2
    go_ret
    exact ⟨rfl, rfl⟩

end Go.Proofs.Ytaekdfjecokpmaa

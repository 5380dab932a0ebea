/-
  FrameKnown's walk.
-/
import Derived.Test.YtafcjdcmbklfkaaLaw53
import Derived.Test.YtafcjdcmbklfkaaSlots3
namespace Go.Proofs.Ytafcjdcmbklfkaa
open Go.RowKit Plait
set_option linter.unusedVariables false
set_option linter.unusedSimpArgs false

/-- The network and the frame of the example. -/
def kc5 : Cf := ⟨6, 4, 0, 0, 0, [2]⟩
theorem kc5_ok : kc5.Ok := by constructor <;> simp [kc5]
def kf5 : Fr := ⟨3, 5, 6, ⟨2, 7⟩, []⟩
theorem readF_wrap (c : Cf) (l : List UInt8) (h : allBits l) : readF c (wrapL l) = readB c l := by
  unfold readF
  rw [open_wrap _ h]
  rfl
theorem bits_lit (l : List UInt8) (h : l.all bitB = true) : allBits l := fun c hc => List.all_eq_true.1 h c hc

def rows5 : Array Value := #[.string ⟨#[48, 48, 48, 48, 48, 48, 48, 48, 48, 48, 48, 48, 48, 48, 48, 49, 48, 49, 48, 48, 48, 49, 49, 48, 48, 48, 48, 48, 48, 48, 48, 48, 48, 48]⟩, .string ⟨#[49, 49, 48, 48, 48, 48, 48, 48, 48, 48, 48, 48, 48, 48, 48, 49, 48, 49, 48, 48, 48, 49, 49, 48, 49, 49, 48, 48, 48, 48, 48, 48, 48, 48]⟩, .string ⟨#[49, 49, 48, 48, 48, 48, 48, 48, 48, 48, 48, 48, 48, 48, 48, 49, 48, 49, 48, 48, 48, 49, 49, 48, 48, 48, 48, 48, 48, 48, 48, 48, 48, 48]⟩, .string ⟨#[49, 49, 48, 48, 48, 48, 48, 48, 48, 48, 48, 48, 48, 48, 48, 49, 48, 49, 48, 48, 48, 49, 49, 48, 48, 49, 48, 48, 48, 48, 48, 48, 48, 49]⟩, .string ⟨#[49, 49, 48, 48, 48, 48, 48, 48, 48, 48, 48, 48, 48, 48, 48, 49, 48, 49, 48, 48, 48, 49, 49, 48, 49, 48, 48, 48, 48, 48, 48, 49, 49, 49, 48]⟩, .string ⟨#[49, 49, 48, 48, 48, 48, 48, 48, 48, 48, 48, 48, 48, 48, 48, 49, 48, 49, 48, 48, 48, 49, 49, 48, 49, 48, 48, 48, 48, 48, 48, 49, 49]⟩, .string ⟨#[48, 49, 48, 48, 48, 48, 48, 48, 48, 48, 48, 48, 48, 48, 48, 49, 48, 49, 48, 48, 48, 49, 49, 48, 48, 48, 48, 48, 48, 48, 48, 48, 48, 48]⟩, .string ⟨#[49, 49, 48, 48, 48, 48, 48, 48, 48, 48, 48, 48, 48, 48, 48, 49, 48, 49, 48, 48, 48, 49, 49, 49, 49, 48, 48, 48, 48, 48, 48, 49, 49, 49]⟩, .string ⟨#[48, 49, 48, 48, 48, 48, 48, 48, 48, 48, 48, 48, 48, 48, 48, 49, 48, 49, 48, 48, 48, 48, 48, 49, 48, 48, 48, 48, 48, 48, 48, 48, 48, 48]⟩, .string ⟨#[49, 49, 48, 48, 48, 48, 48, 48, 48, 48, 48, 48, 48, 48, 48, 49, 48, 49, 48, 48, 48, 48, 48, 49, 49, 48, 48, 48, 48, 48, 48, 49, 49, 49]⟩]
def want5 : Array Value := #[.int .i64 6, .int .i64 1, .int .i64 1, .int .i64 1, .int .i64 2, .int .i64 3, .int .i64 6, .int .i64 1, .int .i64 0, .int .i64 2]
theorem rows5_get (k : Nat) (hk : k < 10) : ∃ (l : List UInt8) (er : Int) (p : Fr), rows5[k]? = some (.string ⟨l.toArray⟩) ∧ want5[k]? = some (.int .i64 er) ∧ readF kc5 (wrapL l) = (p, er) ∧ l.length ≤ 100 := by
  rcases (by omega : k = 0 ∨ k = 1 ∨ k = 2 ∨ k = 3 ∨ k = 4 ∨ k = 5 ∨ k = 6 ∨ k = 7 ∨ k = 8 ∨ k = 9) with rfl | rfl | rfl | rfl | rfl | rfl | rfl | rfl | rfl | rfl
  · exact ⟨[48, 48, 48, 48, 48, 48, 48, 48, 48, 48, 48, 48, 48, 48, 48, 49, 48, 49, 48, 48, 48, 49, 49, 48, 48, 48, 48, 48, 48, 48, 48, 48, 48, 48], 6, zeroF, rfl, rfl, by rw [readF_wrap _ _ (bits_lit _ (by decide +kernel))]; decide +kernel, by decide⟩
  · exact ⟨[49, 49, 48, 48, 48, 48, 48, 48, 48, 48, 48, 48, 48, 48, 48, 49, 48, 49, 48, 48, 48, 49, 49, 48, 49, 49, 48, 48, 48, 48, 48, 48, 48, 48], 1, zeroF, rfl, rfl, by rw [readF_wrap _ _ (bits_lit _ (by decide +kernel))]; decide +kernel, by decide⟩
  · exact ⟨[49, 49, 48, 48, 48, 48, 48, 48, 48, 48, 48, 48, 48, 48, 48, 49, 48, 49, 48, 48, 48, 49, 49, 48, 48, 48, 48, 48, 48, 48, 48, 48, 48, 48], 1, zeroF, rfl, rfl, by rw [readF_wrap _ _ (bits_lit _ (by decide +kernel))]; decide +kernel, by decide⟩
  · exact ⟨[49, 49, 48, 48, 48, 48, 48, 48, 48, 48, 48, 48, 48, 48, 48, 49, 48, 49, 48, 48, 48, 49, 49, 48, 48, 49, 48, 48, 48, 48, 48, 48, 48, 49], 1, zeroF, rfl, rfl, by rw [readF_wrap _ _ (bits_lit _ (by decide +kernel))]; decide +kernel, by decide⟩
  · exact ⟨[49, 49, 48, 48, 48, 48, 48, 48, 48, 48, 48, 48, 48, 48, 48, 49, 48, 49, 48, 48, 48, 49, 49, 48, 49, 48, 48, 48, 48, 48, 48, 49, 49, 49, 48], 2, zeroF, rfl, rfl, by rw [readF_wrap _ _ (bits_lit _ (by decide +kernel))]; decide +kernel, by decide⟩
  · exact ⟨[49, 49, 48, 48, 48, 48, 48, 48, 48, 48, 48, 48, 48, 48, 48, 49, 48, 49, 48, 48, 48, 49, 49, 48, 49, 48, 48, 48, 48, 48, 48, 49, 49], 3, zeroF, rfl, rfl, by rw [readF_wrap _ _ (bits_lit _ (by decide +kernel))]; decide +kernel, by decide⟩
  · exact ⟨[48, 49, 48, 48, 48, 48, 48, 48, 48, 48, 48, 48, 48, 48, 48, 49, 48, 49, 48, 48, 48, 49, 49, 48, 48, 48, 48, 48, 48, 48, 48, 48, 48, 48], 6, zeroF, rfl, rfl, by rw [readF_wrap _ _ (bits_lit _ (by decide +kernel))]; decide +kernel, by decide⟩
  · exact ⟨[49, 49, 48, 48, 48, 48, 48, 48, 48, 48, 48, 48, 48, 48, 48, 49, 48, 49, 48, 48, 48, 49, 49, 49, 49, 48, 48, 48, 48, 48, 48, 49, 49, 49], 1, zeroF, rfl, rfl, by rw [readF_wrap _ _ (bits_lit _ (by decide +kernel))]; decide +kernel, by decide⟩
  · exact ⟨[48, 49, 48, 48, 48, 48, 48, 48, 48, 48, 48, 48, 48, 48, 48, 49, 48, 49, 48, 48, 48, 48, 48, 49, 48, 48, 48, 48, 48, 48, 48, 48, 48, 48], 0, ⟨1, 5, 1, ⟨0, 0⟩, []⟩, rfl, rfl, by rw [readF_wrap _ _ (bits_lit _ (by decide +kernel))]; decide +kernel, by decide⟩
  · exact ⟨[49, 49, 48, 48, 48, 48, 48, 48, 48, 48, 48, 48, 48, 48, 48, 49, 48, 49, 48, 48, 48, 48, 48, 49, 49, 48, 48, 48, 48, 48, 48, 49, 49, 49], 2, zeroF, rfl, rfl, by rw [readF_wrap _ _ (bits_lit _ (by decide +kernel))]; decide +kernel, by decide⟩
theorem first5 : readF kc5 (wrapL [49, 49, 48, 48, 48, 48, 48, 48, 48, 48, 48, 48, 48, 48, 48, 49, 48, 49, 48, 48, 48, 49, 49, 48, 49, 48, 48, 48, 48, 48, 48, 49, 49, 49]) = (kf5, 0) := by rw [readF_wrap _ _ (bits_lit _ (by decide +kernel))]; decide +kernel

set_option maxRecDepth 100000 in
set_option maxHeartbeats 6400000 in
theorem frameKnown_walk (wh : Int) (w : World) (r1 : -9223372036854775808 ≤ wh) (r2 : wh ≤ 9223372036854775807) :
    Calls Try.prog 8 #[.int .i64 wh] w fun e w' => e = .returned (.bool true) ∧ Below w.heap.size w w' := by
  go_enter Try.func8, Try.ntmps8
  go_wp2_with fail
  refine (known5_any _).mono ?_
  rintro e w1 ⟨rfl, hB⟩
  have ad0 : ∀ W : World, (Op.stringOp .add ⟨#[49, 49, 48, 48, 48, 48, 48, 48, 48, 48, 48, 48, 48, 48, 48, 49, 48, 49, 48, 48, 48, 49, 49, 48]⟩ ⟨#[49, 48]⟩).run Try.prog W = .ok (.string ⟨#[49, 49, 48, 48, 48, 48, 48, 48, 48, 48, 48, 48, 48, 48, 48, 49, 48, 49, 48, 48, 48, 49, 49, 48, 49, 48]⟩) W := add_run [49, 49, 48, 48, 48, 48, 48, 48, 48, 48, 48, 48, 48, 48, 48, 49, 48, 49, 48, 48, 48, 49, 49, 48] [49, 48] (by simp) (by simp)
  have ad1 : ∀ W : World, (Op.stringOp .add ⟨#[49, 49, 48, 48, 48, 48, 48, 48, 48, 48, 48, 48, 48, 48, 48, 49, 48, 49, 48, 48, 48, 49, 49, 48, 49, 48]⟩ ⟨#[48, 48, 48, 48, 48, 49, 49, 49]⟩).run Try.prog W = .ok (.string ⟨#[49, 49, 48, 48, 48, 48, 48, 48, 48, 48, 48, 48, 48, 48, 48, 49, 48, 49, 48, 48, 48, 49, 49, 48, 49, 48, 48, 48, 48, 48, 48, 49, 49, 49]⟩) W := add_run [49, 49, 48, 48, 48, 48, 48, 48, 48, 48, 48, 48, 48, 48, 48, 49, 48, 49, 48, 48, 48, 49, 49, 48, 49, 48] [48, 48, 48, 48, 48, 49, 49, 49] (by simp) (by simp)
  have ad2 : ∀ W : World, (Op.stringOp .add ⟨#[49, 49, 48, 48, 48, 48, 48, 48, 48, 48, 48, 48, 48, 48, 48, 49, 48, 49, 48, 48, 48, 49, 49, 48]⟩ ⟨#[49, 49, 48, 48, 48, 48, 48, 48, 48, 48]⟩).run Try.prog W = .ok (.string ⟨#[49, 49, 48, 48, 48, 48, 48, 48, 48, 48, 48, 48, 48, 48, 48, 49, 48, 49, 48, 48, 48, 49, 49, 48, 49, 49, 48, 48, 48, 48, 48, 48, 48, 48]⟩) W := add_run [49, 49, 48, 48, 48, 48, 48, 48, 48, 48, 48, 48, 48, 48, 48, 49, 48, 49, 48, 48, 48, 49, 49, 48] [49, 49, 48, 48, 48, 48, 48, 48, 48, 48] (by simp) (by simp)
  have ad3 : ∀ W : World, (Op.stringOp .add ⟨#[49, 49, 48, 48, 48, 48, 48, 48, 48, 48, 48, 48, 48, 48, 48, 49, 48, 49, 48, 48, 48, 49, 49, 48]⟩ ⟨#[48, 48, 48, 48, 48, 48, 48, 48, 48, 48]⟩).run Try.prog W = .ok (.string ⟨#[49, 49, 48, 48, 48, 48, 48, 48, 48, 48, 48, 48, 48, 48, 48, 49, 48, 49, 48, 48, 48, 49, 49, 48, 48, 48, 48, 48, 48, 48, 48, 48, 48, 48]⟩) W := add_run [49, 49, 48, 48, 48, 48, 48, 48, 48, 48, 48, 48, 48, 48, 48, 49, 48, 49, 48, 48, 48, 49, 49, 48] [48, 48, 48, 48, 48, 48, 48, 48, 48, 48] (by simp) (by simp)
  have ad4 : ∀ W : World, (Op.stringOp .add ⟨#[49, 49, 48, 48, 48, 48, 48, 48, 48, 48, 48, 48, 48, 48, 48, 49, 48, 49, 48, 48, 48, 49, 49, 48]⟩ ⟨#[48, 49, 48, 48, 48, 48, 48, 48, 48, 49]⟩).run Try.prog W = .ok (.string ⟨#[49, 49, 48, 48, 48, 48, 48, 48, 48, 48, 48, 48, 48, 48, 48, 49, 48, 49, 48, 48, 48, 49, 49, 48, 48, 49, 48, 48, 48, 48, 48, 48, 48, 49]⟩) W := add_run [49, 49, 48, 48, 48, 48, 48, 48, 48, 48, 48, 48, 48, 48, 48, 49, 48, 49, 48, 48, 48, 49, 49, 48] [48, 49, 48, 48, 48, 48, 48, 48, 48, 49] (by simp) (by simp)
  have ad5 : ∀ W : World, (Op.stringOp .add ⟨#[49, 49, 48, 48, 48, 48, 48, 48, 48, 48, 48, 48, 48, 48, 48, 49, 48, 49, 48, 48, 48, 49, 49, 48]⟩ ⟨#[49, 48, 48, 48, 48, 48, 48, 49, 49, 49, 48]⟩).run Try.prog W = .ok (.string ⟨#[49, 49, 48, 48, 48, 48, 48, 48, 48, 48, 48, 48, 48, 48, 48, 49, 48, 49, 48, 48, 48, 49, 49, 48, 49, 48, 48, 48, 48, 48, 48, 49, 49, 49, 48]⟩) W := add_run [49, 49, 48, 48, 48, 48, 48, 48, 48, 48, 48, 48, 48, 48, 48, 49, 48, 49, 48, 48, 48, 49, 49, 48] [49, 48, 48, 48, 48, 48, 48, 49, 49, 49, 48] (by simp) (by simp)
  have ad6 : ∀ W : World, (Op.stringOp .add ⟨#[49, 49, 48, 48, 48, 48, 48, 48, 48, 48, 48, 48, 48, 48, 48, 49, 48, 49, 48, 48, 48, 49, 49, 48]⟩ ⟨#[49, 48, 48, 48, 48, 48, 48, 49, 49]⟩).run Try.prog W = .ok (.string ⟨#[49, 49, 48, 48, 48, 48, 48, 48, 48, 48, 48, 48, 48, 48, 48, 49, 48, 49, 48, 48, 48, 49, 49, 48, 49, 48, 48, 48, 48, 48, 48, 49, 49]⟩) W := add_run [49, 49, 48, 48, 48, 48, 48, 48, 48, 48, 48, 48, 48, 48, 48, 49, 48, 49, 48, 48, 48, 49, 49, 48] [49, 48, 48, 48, 48, 48, 48, 49, 49] (by simp) (by simp)
  go_upto_region 5 with fail
  have k_c : Blk ((w1.alloc (.cells #[.int .i64 2] 3)).alloc (.cells #[.int .i64 6, .int .i64 4, .int .i64 0, .int .i64 0, .int .i64 0, .slice (some ⟨w1.heap.size, 0, none⟩) 1 1] 24)) (w1.heap.size + 1) 24 (confBox kc5 (some ⟨w1.heap.size, 0, none⟩) 1) := Blk.newAt _ _ (by simp)
  replace hB := (hB.alloc hB.size (.cells #[.int .i64 2] 3)).alloc (hB.alloc hB.size (.cells #[.int .i64 2] 3)).size (.cells #[.int .i64 6, .int .i64 4, .int .i64 0, .int .i64 0, .int .i64 0, .slice (some ⟨w1.heap.size, 0, none⟩) 1 1] 24)
  generalize (w1.alloc (.cells #[.int .i64 2] 3)).alloc (.cells #[.int .i64 6, .int .i64 4, .int .i64 0, .int .i64 0, .int .i64 0, .slice (some ⟨w1.heap.size, 0, none⟩) 1 1] 24) = w2 at *
  generalize w1.heap.size = cb at *
  have HX0 := Lib.hid (fun W => rwrap_any [49, 49, 48, 48, 48, 48, 48, 48, 48, 48, 48, 48, 48, 48, 48, 49, 48, 49, 48, 48, 48, 49, 49, 48, 49, 48, 48, 48, 48, 48, 48, 49, 49, 49] W (by simp))
  have HR0 := Lib.hid (fun W => fRead_at kc5 (some ⟨cb, 0, none⟩) 1 (wrapL [49, 49, 48, 48, 48, 48, 48, 48, 48, 48, 48, 48, 48, 48, 48, 49, 48, 49, 48, 48, 48, 49, 49, 48, 49, 48, 48, 48, 48, 48, 48, 49, 49, 49]) W kc5_ok (by rw [wrapL_length]; simp) _ _ first5)
  refine region_slots [some 17, some 18, some 19, some 20, some 21, some 22, some 16, some 23, some 24, some 5, none, some 6] [none, none, none, none, none, none, none, none, none, none, some 9, none] 67 (by kernel_rfl) (by kernel_rfl) rfl rfl ?_
  apply step_fix
  · intro a W Zs hS hFm hz hd
    have h3 := hFm.old 3 rfl
    conv at h3 => rhs; whnf
    replace h3 := ev_get hFm.size h3
    have hq := (k_c.drew1.later hS).at
    unfold confBox at hq
    refine .inl ⟨wanted_none rfl _, fun K hK => ?_⟩
    have HK := Lib.hid hK
    clear hd hFm hK
    go_simp
    exact HK.out _ _ rfl (Below.refl _ _)
  simp only [List.nil_append, List.cons_append]
  apply step_fix
  · intro a W Zs hS hFm hz hd
    have h4 := hFm.old 4 rfl
    conv at h4 => rhs; whnf
    replace h4 := ev_get hFm.size h4
    refine .inl ⟨wanted_none rfl _, fun K hK => ?_⟩
    have HK := Lib.hid hK
    clear hd hFm hK
    go_simp
    exact HK.out _ _ rfl (Below.refl _ _)
  simp only [List.nil_append, List.cons_append]
  apply step_fix
  · intro a W Zs hS hFm hz hd
    have h18 := ev_get hFm.size (hd 1 18 rfl rfl)
    refine .inl ⟨wanted_none rfl _, fun K hK => ?_⟩
    have HK := Lib.hid hK
    clear hd hFm hK
    go_simp
    exact HK.out _ _ rfl (Below.refl _ _)
  simp only [List.nil_append, List.cons_append]
  apply step_fix
  · intro a W Zs hS hFm hz hd
    have h19 := ev_get hFm.size (hd 2 19 rfl rfl)
    refine .inl ⟨wanted_none rfl _, fun K hK => ?_⟩
    have HK := Lib.hid hK
    clear hd hFm hK
    go_simp
    exact HK.out _ _ rfl (Below.refl _ _)
  simp only [List.nil_append, List.cons_append]
  apply step_fix
  · intro a W Zs hS hFm hz hd
    have h20 := ev_get hFm.size (hd 3 20 rfl rfl)
    refine .inl ⟨wanted_none rfl _, fun K hK => ?_⟩
    have HK := Lib.hid hK
    clear hd hFm hK
    go_simp
    refine (HX0.out _).mono ?_
    rintro e W' ⟨rfl, rfl⟩
    exact HK.out _ _ rfl (Below.refl _ _)
  simp only [List.nil_append, List.cons_append]
  refine step_of (rdF _ (kf5) (0)) (rdF_good _ _ _) ?_ ?_
  · intro a W Zs hS hFm hz hd
    have h17 := ev_get hFm.size (hd 0 17 rfl rfl)
    have h21 := ev_get hFm.size (hd 4 21 rfl rfl)
    refine .inl ⟨wanted_none rfl _, fun K hK => ?_⟩
    have HK := Lib.hid hK
    clear hd hFm hK
    go_simp
    refine (HR0.out _).mono ?_
    rintro e W' ⟨ra, rc, rfl, hr, hfr, hb⟩
    exact HK.out _ _ ⟨ra, rc, rfl, hr, hr.foot hfr⟩ hb
  simp only [List.nil_append, List.cons_append]
  refine step_of (rdF _ (kf5) (0)) (rdF_good _ _ _) ?_ ?_
  · intro a W Zs hS hFm hz hd
    obtain ⟨a22, c22, e22, r22, f22⟩ := hd 5 22 rfl rfl
    have h22 := ev_get hFm.size e22
    refine .inl ⟨wanted_none rfl _, fun K hK => ?_⟩
    have HK := Lib.hid hK
    clear hd hFm hK
    go_simp
    exact HK.out _ _ ⟨a22, c22, rfl, r22, ft_mono f22 (foot_dep 5 rfl rfl rfl)⟩ (Below.refl _ _)
  simp only [List.nil_append, List.cons_append]
  refine step_of (frF _ (kf5)) (frF_good _ _) ?_ ?_
  · intro a W Zs hS hFm hz hd
    obtain ⟨a16, c16, e16, r16, f16⟩ := hd 6 16 rfl rfl
    have h16 := ev_get hFm.size e16
    refine .inl ⟨wanted_none rfl _, fun K hK => ?_⟩
    have HK := Lib.hid hK
    clear hd hFm hK
    go_simp
    exact HK.out _ _ ⟨a16, c16, rfl, r16, ft_mono f16 (foot_dep 6 rfl rfl rfl)⟩ (Below.refl _ _)
  simp only [List.nil_append, List.cons_append]
  apply step_fix
  · intro a W Zs hS hFm hz hd
    obtain ⟨a16, c16, e16, r16, f16⟩ := hd 6 16 rfl rfl
    have h16 := ev_get hFm.size e16
    refine .inl ⟨wanted_none rfl _, fun K hK => ?_⟩
    have HK := Lib.hid hK
    clear hd hFm hK
    go_simp
    exact HK.out _ _ rfl (Below.refl _ _)
  simp only [List.nil_append, List.cons_append]
  refine step_of (boxF _ 29 6) (boxF_good _ _ _) ?_ ?_
  · intro a W Zs hS hFm hz hd
    refine .inl ⟨wanted_none rfl _, fun K hK => ?_⟩
    have HK := Lib.hid hK
    clear hd hFm hK
    go_simp
    exact HK.out _ _ ⟨_, _, rfl, rfl, Blk.new _ _ _, .inl ⟨Nat.le_refl _, by simp⟩⟩ (alloc_below _ _)
  simp only [List.nil_append, List.cons_append]
  refine step_of (frBoxF _ (kf5)) (frBoxF_good _ _) ?_ ?_
  · intro a W Zs hS hFm hz hd hap
    obtain ⟨b5, cs5, e5, n5, q5, z5⟩ := hd 9 5 rfl rfl
    have h5 := ev_get hFm.size e5
    obtain ⟨a23, c23, e23, r23, f23⟩ := hd 7 23 rfl rfl
    have h23 := ev_get hFm.size e23
    have hB0 := (hz 9 _ rfl z5).1
    obtain ⟨u0, u1, u2, u3, u4, u5, rfl⟩ := arr6 n5
    have hq := q5.at
    have hfz := q5.frozen
    refine ⟨wanted_none rfl _, b5, z5, fun K hK => ?_⟩
    have HK := Lib.hid hK
    clear hd hFm hK
    go_simp
    exact HK.out undef _ (Only.fill6 _ _ _ _ _ _ _ _) (fun d hd' => by injection hd' with hd'; subst hd'; exact ⟨⟨b5, a23, c23, e5, q5.fill6 _ _ _ _ _ _, r23.agree f23 (store_apart (Only.fill6 W b5 _ _ _ _ _ _) hB0 z5 hap 7 rfl (by decide)), .inr (.inl rfl), ft_mono f23 (foot_depS 7 rfl rfl rfl)⟩, ⟨b5, _, e5, rfl, q5.fill6 _ _ _ _ _ _, z5⟩⟩)
  simp only [List.nil_append, List.cons_append]
  apply step_fix
  · intro a W Zs hS hFm hz hd
    have h24 := ev_get hFm.size (hd 8 24 rfl rfl)
    refine .inl ⟨wanted_none rfl _, fun K hK => ?_⟩
    have HK := Lib.hid hK
    clear hd hFm hK
    go_simp
    exact HK.out _ _ rfl (Below.refl _ _)
  simp only [List.nil_append, List.cons_append]
  intro a w3 Zs hS hFm hz hd
  obtain ⟨b5, a5, c5, e5, q5, r5, f5, g5⟩ := hd 10 5 rfl
  have e6 := hd 11 6 rfl
  have e0 := hFm.old 0 rfl
  conv at e0 => rhs; whnf
  have e1 := hFm.old 1 rfl
  conv at e1 => rhs; whnf
  have e2 := hFm.old 2 rfl
  conv at e2 => rhs; whnf
  have e3 := hFm.old 3 rfl
  conv at e3 => rhs; whnf
  have e4 := hFm.old 4 rfl
  conv at e4 => rhs; whnf
  have e7 := hFm.old 7 rfl
  conv at e7 => rhs; whnf
  have e8 := hFm.old 8 rfl
  conv at e8 => rhs; whnf
  have e9 := hFm.old 9 rfl
  conv at e9 => rhs; whnf
  have e10 := hFm.old 10 rfl
  conv at e10 => rhs; whnf
  have e11 := hFm.old 11 rfl
  conv at e11 => rhs; whnf
  have e12 := hFm.old 12 rfl
  conv at e12 => rhs; whnf
  have e13 := hFm.old 13 rfl
  conv at e13 => rhs; whnf
  have e14 := hFm.old 14 rfl
  conv at e14 => rhs; whnf
  have e15 := hFm.old 15 rfl
  conv at e15 => rhs; whnf
  have e25 := hFm.old 25 rfl
  conv at e25 => rhs; whnf
  have e26 := hFm.old 26 rfl
  conv at e26 => rhs; whnf
  have e27 := hFm.old 27 rfl
  conv at e27 => rhs; whnf
  have e28 := hFm.old 28 rfl
  conv at e28 => rhs; whnf
  have e29 := hFm.old 29 rfl
  conv at e29 => rhs; whnf
  have e30 := hFm.old 30 rfl
  conv at e30 => rhs; whnf
  have e31 := hFm.old 31 rfl
  conv at e31 => rhs; whnf
  have e32 := hFm.old 32 rfl
  conv at e32 => rhs; whnf
  have e33 := hFm.old 33 rfl
  conv at e33 => rhs; whnf
  have e34 := hFm.old 34 rfl
  conv at e34 => rhs; whnf
  have e35 := hFm.old 35 rfl
  conv at e35 => rhs; whnf
  have e36 := hFm.old 36 rfl
  conv at e36 => rhs; whnf
  have e37 := hFm.old 37 rfl
  conv at e37 => rhs; whnf
  have e38 := hFm.old 38 rfl
  conv at e38 => rhs; whnf
  have e39 := hFm.old 39 rfl
  conv at e39 => rhs; whnf
  have e40 := hFm.old 40 rfl
  conv at e40 => rhs; whnf
  have e41 := hFm.old 41 rfl
  conv at e41 => rhs; whnf
  have e42 := hFm.old 42 rfl
  conv at e42 => rhs; whnf
  have e43 := hFm.old 43 rfl
  conv at e43 => rhs; whnf
  have e44 := hFm.old 44 rfl
  conv at e44 => rhs; whnf
  have e45 := hFm.old 45 rfl
  conv at e45 => rhs; whnf
  have e46 := hFm.old 46 rfl
  conv at e46 => rhs; whnf
  have e47 := hFm.old 47 rfl
  conv at e47 => rhs; whnf
  have e48 := hFm.old 48 rfl
  conv at e48 => rhs; whnf
  have e49 := hFm.old 49 rfl
  conv at e49 => rhs; whnf
  have e50 := hFm.old 50 rfl
  conv at e50 => rhs; whnf
  have e51 := hFm.old 51 rfl
  conv at e51 => rhs; whnf
  have e52 := hFm.old 52 rfl
  conv at e52 => rhs; whnf
  have e53 := hFm.old 53 rfl
  conv at e53 => rhs; whnf
  have e54 := hFm.old 54 rfl
  conv at e54 => rhs; whnf
  have e55 := hFm.old 55 rfl
  conv at e55 => rhs; whnf
  have e56 := hFm.old 56 rfl
  conv at e56 => rhs; whnf
  have e57 := hFm.old 57 rfl
  conv at e57 => rhs; whnf
  have e58 := hFm.old 58 rfl
  conv at e58 => rhs; whnf
  have e59 := hFm.old 59 rfl
  conv at e59 => rhs; whnf
  have e60 := hFm.old 60 rfl
  conv at e60 => rhs; whnf
  have e61 := hFm.old 61 rfl
  conv at e61 => rhs; whnf
  have e62 := hFm.old 62 rfl
  conv at e62 => rhs; whnf
  have e63 := hFm.old 63 rfl
  conv at e63 => rhs; whnf
  have e64 := hFm.old 64 rfl
  conv at e64 => rhs; whnf
  have e65 := hFm.old 65 rfl
  conv at e65 => rhs; whnf
  have e66 := hFm.old 66 rfl
  conv at e66 => rhs; whnf
  have hsz := hFm.size
  have hdf := hFm.defers
  clear hd hFm
  obtain ⟨t, df⟩ := a
  simp only at hsz hdf
  subst hdf
  obtain ⟨x, hx⟩ : ∃ x : Nat → Value, ∀ i, t.getD i undef = x i := ⟨fun i => t.getD i undef, fun _ => rfl⟩
  have h5 := (hx 5).symm.trans e5
  have h6 := (hx 6).symm.trans e6
  have h0 := (hx 0).symm.trans e0
  have h1 := (hx 1).symm.trans e1
  have h2 := (hx 2).symm.trans e2
  have h3 := (hx 3).symm.trans e3
  have h4 := (hx 4).symm.trans e4
  have h7 := (hx 7).symm.trans e7
  have h8 := (hx 8).symm.trans e8
  have h9 := (hx 9).symm.trans e9
  have h10 := (hx 10).symm.trans e10
  have h11 := (hx 11).symm.trans e11
  have h12 := (hx 12).symm.trans e12
  have h13 := (hx 13).symm.trans e13
  have h14 := (hx 14).symm.trans e14
  have h15 := (hx 15).symm.trans e15
  have h25 := (hx 25).symm.trans e25
  have h26 := (hx 26).symm.trans e26
  have h27 := (hx 27).symm.trans e27
  have h28 := (hx 28).symm.trans e28
  have h29 := (hx 29).symm.trans e29
  have h30 := (hx 30).symm.trans e30
  have h31 := (hx 31).symm.trans e31
  have h32 := (hx 32).symm.trans e32
  have h33 := (hx 33).symm.trans e33
  have h34 := (hx 34).symm.trans e34
  have h35 := (hx 35).symm.trans e35
  have h36 := (hx 36).symm.trans e36
  have h37 := (hx 37).symm.trans e37
  have h38 := (hx 38).symm.trans e38
  have h39 := (hx 39).symm.trans e39
  have h40 := (hx 40).symm.trans e40
  have h41 := (hx 41).symm.trans e41
  have h42 := (hx 42).symm.trans e42
  have h43 := (hx 43).symm.trans e43
  have h44 := (hx 44).symm.trans e44
  have h45 := (hx 45).symm.trans e45
  have h46 := (hx 46).symm.trans e46
  have h47 := (hx 47).symm.trans e47
  have h48 := (hx 48).symm.trans e48
  have h49 := (hx 49).symm.trans e49
  have h50 := (hx 50).symm.trans e50
  have h51 := (hx 51).symm.trans e51
  have h52 := (hx 52).symm.trans e52
  have h53 := (hx 53).symm.trans e53
  have h54 := (hx 54).symm.trans e54
  have h55 := (hx 55).symm.trans e55
  have h56 := (hx 56).symm.trans e56
  have h57 := (hx 57).symm.trans e57
  have h58 := (hx 58).symm.trans e58
  have h59 := (hx 59).symm.trans e59
  have h60 := (hx 60).symm.trans e60
  have h61 := (hx 61).symm.trans e61
  have h62 := (hx 62).symm.trans e62
  have h63 := (hx 63).symm.trans e63
  have h64 := (hx 64).symm.trans e64
  have h65 := (hx 65).symm.trans e65
  have h66 := (hx 66).symm.trans e66
  have ht' : t = #[x 0, x 1, x 2, x 3, x 4, x 5, x 6, x 7, x 8, x 9, x 10, x 11, x 12, x 13, x 14, x 15, x 16, x 17, x 18, x 19, x 20, x 21, x 22, x 23, x 24, x 25, x 26, x 27, x 28, x 29, x 30, x 31, x 32, x 33, x 34, x 35, x 36, x 37, x 38, x 39, x 40, x 41, x 42, x 43, x 44, x 45, x 46, x 47, x 48, x 49, x 50, x 51, x 52, x 53, x 54, x 55, x 56, x 57, x 58, x 59, x 60, x 61, x 62, x 63, x 64, x 65, x 66] := frame_lit t 67 hsz x hx
  clear hx hsz hz e5 e6 e0 e1 e2 e3 e4 e7 e8 e9 e10 e11 e12 e13 e14 e15 e25 e26 e27 e28 e29 e30 e31 e32 e33 e34 e35 e36 e37 e38 e39 e40 e41 e42 e43 e44 e45 e46 e47 e48 e49 e50 e51 e52 e53 e54 e55 e56 e57 e58 e59 e60 e61 e62 e63 e64 e65 e66
  subst ht'
  dsimp only
  rw [h5, h6, h0, h1, h2, h3, h4, h7, h8, h9, h10, h11, h12, h13, h14, h15, h25, h26, h27, h28, h29, h30, h31, h32, h33, h34, h35, h36, h37, h38, h39, h40, h41, h42, h43, h44, h45, h46, h47, h48, h49, h50, h51, h52, h53, h54, h55, h56, h57, h58, h59, h60, h61, h62, h63, h64, h65, h66]
  clear h5 h6 h0 h1 h2 h3 h4 h7 h8 h9 h10 h11 h12 h13 h14 h15 h25 h26 h27 h28 h29 h30 h31 h32 h33 h34 h35 h36 h37 h38 h39 h40 h41 h42 h43 h44 h45 h46 h47 h48 h49 h50 h51 h52 h53 h54 h55 h56 h57 h58 h59 h60 h61 h62 h63 h64 h65 h66
  have hb2 := from_drew hS
  replace hB := hB.trans (hb2.mono hB.size)
  replace k_c := k_c.later hb2
  clear hS hb2 f5 g5
  have HW := Lib.hid (fun W => within5_any wh 10 W (by omega) (by omega))
  obtain ⟨j, hj, hj10⟩ : ∃ j : Nat, wh % 10 = (j : Int) ∧ j < 10 := ⟨(wh % 10).toNat, by omega, by omega⟩
  rw [hj] at HW
  clear hj
  go_wp2_with fail
  refine (HW.out _).mono ?_
  rintro e wl ⟨rfl, rfl⟩
  have k_r : Blk ((w3.alloc (.cells rows5 9)).alloc (.cells want5 34)) w3.heap.size 9 rows5 := (Blk.new w3 _ _).alloc _
  have k_w : Blk ((w3.alloc (.cells rows5 9)).alloc (.cells want5 34)) (w3.heap.size + 1) 34 want5 := Blk.newAt _ _ (by simp)
  replace k_c := (k_c.alloc (.cells rows5 9)).alloc (.cells want5 34)
  replace q5 := (q5.alloc (.cells rows5 9)).alloc (.cells want5 34)
  replace r5 := (r5.alloc (.cells rows5 9)).alloc (.cells want5 34)
  replace hB := (hB.alloc hB.size (.cells rows5 9)).alloc (hB.alloc hB.size (.cells rows5 9)).size (.cells want5 34)
  go_upto_region 9 with fail
  change Code.wp _ _ _ _ ((w3.alloc (.cells rows5 9)).alloc (.cells want5 34))
  generalize (w3.alloc (.cells rows5 9)).alloc (.cells want5 34) = w4 at *
  generalize w3.heap.size = rb at *
  obtain ⟨l, er, p, g1, g2, g3, g4⟩ := rows5_get j hj10
  have HX := Lib.hid (fun W => rwrap_any l W (by omega))
  have HR := Lib.hid (fun W => fRead_at kc5 (some ⟨cb, 0, none⟩) 1 (wrapL l) W kc5_ok (by rw [wrapL_length]; omega) _ _ g3)
  have j0 : (0 : Int) ≤ (j : Int) := by omega
  have j1 : (j : Int) < 10 := by omega
  have HC1 := Lib.hid (fun W (h : Below w4.drew.heap.size w4.drew W) => ((k_r.drew1.later h).at j).trans g1)
  clear g1 g3 ad0 ad1 ad2 ad3 ad4 ad5 ad6 HX0 HR0 HW
  refine region_slots [some 42, some 43, some 44, some 45, some 46, some 47, some 48, some 41, some 49, some 50, some 10, none, some 11] [none, none, none, none, none, none, none, none, none, none, none, some 10, none] 67 (by kernel_rfl) (by kernel_rfl) rfl rfl ?_
  apply step_fix
  · intro a W Zs hS hFm hz hd
    have h3 := hFm.old 3 rfl
    conv at h3 => rhs; whnf
    replace h3 := ev_get hFm.size h3
    have hq := (k_c.drew1.later hS).at
    unfold confBox at hq
    refine .inl ⟨wanted_none rfl _, fun K hK => ?_⟩
    have HK := Lib.hid hK
    clear hd hFm hK
    go_simp
    exact HK.out _ _ rfl (Below.refl _ _)
  simp only [List.nil_append, List.cons_append]
  apply step_fix
  · intro a W Zs hS hFm hz hd
    have h7 := hFm.old 7 rfl
    conv at h7 => rhs; whnf
    replace h7 := ev_get hFm.size h7
    refine .inl ⟨wanted_none rfl _, fun K hK => ?_⟩
    have HK := Lib.hid hK
    clear hd hFm hK
    go_simp
    exact HK.out _ _ rfl (Below.refl _ _)
  simp only [List.nil_append, List.cons_append]
  apply step_fix
  · intro a W Zs hS hFm hz hd
    have h9 := hFm.old 9 rfl
    conv at h9 => rhs; whnf
    replace h9 := ev_get hFm.size h9
    refine .inl ⟨wanted_none rfl _, fun K hK => ?_⟩
    have HK := Lib.hid hK
    clear hd hFm hK
    go_simp
    exact HK.out _ _ rfl (Below.refl _ _)
  simp only [List.nil_append, List.cons_append]
  apply step_fix
  · intro a W Zs hS hFm hz hd
    have h43 := ev_get hFm.size (hd 1 43 rfl rfl)
    have h44 := ev_get hFm.size (hd 2 44 rfl rfl)
    refine .inl ⟨wanted_none rfl _, fun K hK => ?_⟩
    have HK := Lib.hid hK
    clear hd hFm hK
    go_simp
    exact HK.out _ _ rfl (Below.refl _ _)
  simp only [List.nil_append, List.cons_append]
  apply step_fix
  · intro a W Zs hS hFm hz hd
    have h45 := ev_get hFm.size (hd 3 45 rfl rfl)
    have hq2 := HC1.out W hS
    refine .inl ⟨wanted_none rfl _, fun K hK => ?_⟩
    have HK := Lib.hid hK
    clear hd hFm hK
    go_simp
    exact HK.out _ _ rfl (Below.refl _ _)
  simp only [List.nil_append, List.cons_append]
  apply step_fix
  · intro a W Zs hS hFm hz hd
    have h46 := ev_get hFm.size (hd 4 46 rfl rfl)
    refine .inl ⟨wanted_none rfl _, fun K hK => ?_⟩
    have HK := Lib.hid hK
    clear hd hFm hK
    go_simp
    refine (HX.out _).mono ?_
    rintro e W' ⟨rfl, rfl⟩
    exact HK.out _ _ rfl (Below.refl _ _)
  simp only [List.nil_append, List.cons_append]
  refine step_of (rdF _ (p) (er)) (rdF_good _ _ _) ?_ ?_
  · intro a W Zs hS hFm hz hd
    have h42 := ev_get hFm.size (hd 0 42 rfl rfl)
    have h47 := ev_get hFm.size (hd 5 47 rfl rfl)
    refine .inl ⟨wanted_none rfl _, fun K hK => ?_⟩
    have HK := Lib.hid hK
    clear hd hFm hK
    go_simp
    refine (HR.out _).mono ?_
    rintro e W' ⟨ra, rc, rfl, hr, hfr, hb⟩
    exact HK.out _ _ ⟨ra, rc, rfl, hr, hr.foot hfr⟩ hb
  simp only [List.nil_append, List.cons_append]
  refine step_of (rdF _ (p) (er)) (rdF_good _ _ _) ?_ ?_
  · intro a W Zs hS hFm hz hd
    obtain ⟨a48, c48, e48, r48, f48⟩ := hd 6 48 rfl rfl
    have h48 := ev_get hFm.size e48
    refine .inl ⟨wanted_none rfl _, fun K hK => ?_⟩
    have HK := Lib.hid hK
    clear hd hFm hK
    go_simp
    exact HK.out _ _ ⟨a48, c48, rfl, r48, ft_mono f48 (foot_dep 6 rfl rfl rfl)⟩ (Below.refl _ _)
  simp only [List.nil_append, List.cons_append]
  refine step_of (frF _ (p)) (frF_good _ _) ?_ ?_
  · intro a W Zs hS hFm hz hd
    obtain ⟨a41, c41, e41, r41, f41⟩ := hd 7 41 rfl rfl
    have h41 := ev_get hFm.size e41
    refine .inl ⟨wanted_none rfl _, fun K hK => ?_⟩
    have HK := Lib.hid hK
    clear hd hFm hK
    go_simp
    exact HK.out _ _ ⟨a41, c41, rfl, r41, ft_mono f41 (foot_dep 7 rfl rfl rfl)⟩ (Below.refl _ _)
  simp only [List.nil_append, List.cons_append]
  apply step_fix
  · intro a W Zs hS hFm hz hd
    obtain ⟨a41, c41, e41, r41, f41⟩ := hd 7 41 rfl rfl
    have h41 := ev_get hFm.size e41
    refine .inl ⟨wanted_none rfl _, fun K hK => ?_⟩
    have HK := Lib.hid hK
    clear hd hFm hK
    go_simp
    exact HK.out _ _ rfl (Below.refl _ _)
  simp only [List.nil_append, List.cons_append]
  refine step_of (boxF _ 29 6) (boxF_good _ _ _) ?_ ?_
  · intro a W Zs hS hFm hz hd
    refine .inl ⟨wanted_none rfl _, fun K hK => ?_⟩
    have HK := Lib.hid hK
    clear hd hFm hK
    go_simp
    exact HK.out _ _ ⟨_, _, rfl, rfl, Blk.new _ _ _, .inl ⟨Nat.le_refl _, by simp⟩⟩ (alloc_below _ _)
  simp only [List.nil_append, List.cons_append]
  refine step_of (frBoxF _ (p)) (frBoxF_good _ _) ?_ ?_
  · intro a W Zs hS hFm hz hd hap
    obtain ⟨b10, cs10, e10, n10, q10, z10⟩ := hd 10 10 rfl rfl
    have h10 := ev_get hFm.size e10
    obtain ⟨a49, c49, e49, r49, f49⟩ := hd 8 49 rfl rfl
    have h49 := ev_get hFm.size e49
    have hB0 := (hz 10 _ rfl z10).1
    obtain ⟨u0, u1, u2, u3, u4, u5, rfl⟩ := arr6 n10
    have hq := q10.at
    have hfz := q10.frozen
    refine ⟨wanted_none rfl _, b10, z10, fun K hK => ?_⟩
    have HK := Lib.hid hK
    clear hd hFm hK
    go_simp
    exact HK.out undef _ (Only.fill6 _ _ _ _ _ _ _ _) (fun d hd' => by injection hd' with hd'; subst hd'; exact ⟨⟨b10, a49, c49, e10, q10.fill6 _ _ _ _ _ _, r49.agree f49 (store_apart (Only.fill6 W b10 _ _ _ _ _ _) hB0 z10 hap 8 rfl (by decide)), .inr (.inl rfl), ft_mono f49 (foot_depS 8 rfl rfl rfl)⟩, ⟨b10, _, e10, rfl, q10.fill6 _ _ _ _ _ _, z10⟩⟩)
  simp only [List.nil_append, List.cons_append]
  apply step_fix
  · intro a W Zs hS hFm hz hd
    have h50 := ev_get hFm.size (hd 9 50 rfl rfl)
    refine .inl ⟨wanted_none rfl _, fun K hK => ?_⟩
    have HK := Lib.hid hK
    clear hd hFm hK
    go_simp
    exact HK.out _ _ rfl (Below.refl _ _)
  simp only [List.nil_append, List.cons_append]
  intro a w5 Zs hS hFm hz hd
  have e11 := hd 12 11 rfl
  have e0 := hFm.old 0 rfl
  conv at e0 => rhs; whnf
  have e1 := hFm.old 1 rfl
  conv at e1 => rhs; whnf
  have e2 := hFm.old 2 rfl
  conv at e2 => rhs; whnf
  have e3 := hFm.old 3 rfl
  conv at e3 => rhs; whnf
  have e4 := hFm.old 4 rfl
  conv at e4 => rhs; whnf
  have e5 := hFm.old 5 rfl
  conv at e5 => rhs; whnf
  have e6 := hFm.old 6 rfl
  conv at e6 => rhs; whnf
  have e7 := hFm.old 7 rfl
  conv at e7 => rhs; whnf
  have e8 := hFm.old 8 rfl
  conv at e8 => rhs; whnf
  have e9 := hFm.old 9 rfl
  conv at e9 => rhs; whnf
  have e12 := hFm.old 12 rfl
  conv at e12 => rhs; whnf
  have e13 := hFm.old 13 rfl
  conv at e13 => rhs; whnf
  have e14 := hFm.old 14 rfl
  conv at e14 => rhs; whnf
  have e15 := hFm.old 15 rfl
  conv at e15 => rhs; whnf
  have e16 := hFm.old 16 rfl
  conv at e16 => rhs; whnf
  have e17 := hFm.old 17 rfl
  conv at e17 => rhs; whnf
  have e18 := hFm.old 18 rfl
  conv at e18 => rhs; whnf
  have e19 := hFm.old 19 rfl
  conv at e19 => rhs; whnf
  have e20 := hFm.old 20 rfl
  conv at e20 => rhs; whnf
  have e21 := hFm.old 21 rfl
  conv at e21 => rhs; whnf
  have e22 := hFm.old 22 rfl
  conv at e22 => rhs; whnf
  have e23 := hFm.old 23 rfl
  conv at e23 => rhs; whnf
  have e24 := hFm.old 24 rfl
  conv at e24 => rhs; whnf
  have e25 := hFm.old 25 rfl
  conv at e25 => rhs; whnf
  have e26 := hFm.old 26 rfl
  conv at e26 => rhs; whnf
  have e27 := hFm.old 27 rfl
  conv at e27 => rhs; whnf
  have e28 := hFm.old 28 rfl
  conv at e28 => rhs; whnf
  have e29 := hFm.old 29 rfl
  conv at e29 => rhs; whnf
  have e30 := hFm.old 30 rfl
  conv at e30 => rhs; whnf
  have e31 := hFm.old 31 rfl
  conv at e31 => rhs; whnf
  have e32 := hFm.old 32 rfl
  conv at e32 => rhs; whnf
  have e33 := hFm.old 33 rfl
  conv at e33 => rhs; whnf
  have e34 := hFm.old 34 rfl
  conv at e34 => rhs; whnf
  have e35 := hFm.old 35 rfl
  conv at e35 => rhs; whnf
  have e36 := hFm.old 36 rfl
  conv at e36 => rhs; whnf
  have e37 := hFm.old 37 rfl
  conv at e37 => rhs; whnf
  have e38 := hFm.old 38 rfl
  conv at e38 => rhs; whnf
  have e39 := hFm.old 39 rfl
  conv at e39 => rhs; whnf
  have e40 := hFm.old 40 rfl
  conv at e40 => rhs; whnf
  have e51 := hFm.old 51 rfl
  conv at e51 => rhs; whnf
  have e52 := hFm.old 52 rfl
  conv at e52 => rhs; whnf
  have e53 := hFm.old 53 rfl
  conv at e53 => rhs; whnf
  have e54 := hFm.old 54 rfl
  conv at e54 => rhs; whnf
  have e55 := hFm.old 55 rfl
  conv at e55 => rhs; whnf
  have e56 := hFm.old 56 rfl
  conv at e56 => rhs; whnf
  have e57 := hFm.old 57 rfl
  conv at e57 => rhs; whnf
  have e58 := hFm.old 58 rfl
  conv at e58 => rhs; whnf
  have e59 := hFm.old 59 rfl
  conv at e59 => rhs; whnf
  have e60 := hFm.old 60 rfl
  conv at e60 => rhs; whnf
  have e61 := hFm.old 61 rfl
  conv at e61 => rhs; whnf
  have e62 := hFm.old 62 rfl
  conv at e62 => rhs; whnf
  have e63 := hFm.old 63 rfl
  conv at e63 => rhs; whnf
  have e64 := hFm.old 64 rfl
  conv at e64 => rhs; whnf
  have e65 := hFm.old 65 rfl
  conv at e65 => rhs; whnf
  have e66 := hFm.old 66 rfl
  conv at e66 => rhs; whnf
  have hsz := hFm.size
  have hdf := hFm.defers
  clear hd hFm
  obtain ⟨t, df⟩ := a
  simp only at hsz hdf
  subst hdf
  obtain ⟨x, hx⟩ : ∃ x : Nat → Value, ∀ i, t.getD i undef = x i := ⟨fun i => t.getD i undef, fun _ => rfl⟩
  have h11 := (hx 11).symm.trans e11
  have h0 := (hx 0).symm.trans e0
  have h1 := (hx 1).symm.trans e1
  have h2 := (hx 2).symm.trans e2
  have h3 := (hx 3).symm.trans e3
  have h4 := (hx 4).symm.trans e4
  have h5 := (hx 5).symm.trans e5
  have h6 := (hx 6).symm.trans e6
  have h7 := (hx 7).symm.trans e7
  have h8 := (hx 8).symm.trans e8
  have h9 := (hx 9).symm.trans e9
  have h12 := (hx 12).symm.trans e12
  have h13 := (hx 13).symm.trans e13
  have h14 := (hx 14).symm.trans e14
  have h15 := (hx 15).symm.trans e15
  have h16 := (hx 16).symm.trans e16
  have h17 := (hx 17).symm.trans e17
  have h18 := (hx 18).symm.trans e18
  have h19 := (hx 19).symm.trans e19
  have h20 := (hx 20).symm.trans e20
  have h21 := (hx 21).symm.trans e21
  have h22 := (hx 22).symm.trans e22
  have h23 := (hx 23).symm.trans e23
  have h24 := (hx 24).symm.trans e24
  have h25 := (hx 25).symm.trans e25
  have h26 := (hx 26).symm.trans e26
  have h27 := (hx 27).symm.trans e27
  have h28 := (hx 28).symm.trans e28
  have h29 := (hx 29).symm.trans e29
  have h30 := (hx 30).symm.trans e30
  have h31 := (hx 31).symm.trans e31
  have h32 := (hx 32).symm.trans e32
  have h33 := (hx 33).symm.trans e33
  have h34 := (hx 34).symm.trans e34
  have h35 := (hx 35).symm.trans e35
  have h36 := (hx 36).symm.trans e36
  have h37 := (hx 37).symm.trans e37
  have h38 := (hx 38).symm.trans e38
  have h39 := (hx 39).symm.trans e39
  have h40 := (hx 40).symm.trans e40
  have h51 := (hx 51).symm.trans e51
  have h52 := (hx 52).symm.trans e52
  have h53 := (hx 53).symm.trans e53
  have h54 := (hx 54).symm.trans e54
  have h55 := (hx 55).symm.trans e55
  have h56 := (hx 56).symm.trans e56
  have h57 := (hx 57).symm.trans e57
  have h58 := (hx 58).symm.trans e58
  have h59 := (hx 59).symm.trans e59
  have h60 := (hx 60).symm.trans e60
  have h61 := (hx 61).symm.trans e61
  have h62 := (hx 62).symm.trans e62
  have h63 := (hx 63).symm.trans e63
  have h64 := (hx 64).symm.trans e64
  have h65 := (hx 65).symm.trans e65
  have h66 := (hx 66).symm.trans e66
  have ht' : t = #[x 0, x 1, x 2, x 3, x 4, x 5, x 6, x 7, x 8, x 9, x 10, x 11, x 12, x 13, x 14, x 15, x 16, x 17, x 18, x 19, x 20, x 21, x 22, x 23, x 24, x 25, x 26, x 27, x 28, x 29, x 30, x 31, x 32, x 33, x 34, x 35, x 36, x 37, x 38, x 39, x 40, x 41, x 42, x 43, x 44, x 45, x 46, x 47, x 48, x 49, x 50, x 51, x 52, x 53, x 54, x 55, x 56, x 57, x 58, x 59, x 60, x 61, x 62, x 63, x 64, x 65, x 66] := frame_lit t 67 hsz x hx
  clear hx hsz hz e11 e0 e1 e2 e3 e4 e5 e6 e7 e8 e9 e12 e13 e14 e15 e16 e17 e18 e19 e20 e21 e22 e23 e24 e25 e26 e27 e28 e29 e30 e31 e32 e33 e34 e35 e36 e37 e38 e39 e40 e51 e52 e53 e54 e55 e56 e57 e58 e59 e60 e61 e62 e63 e64 e65 e66
  subst ht'
  dsimp only
  rw [h11, h0, h1, h2, h3, h4, h5, h6, h7, h8, h9, h12, h13, h14, h15, h16, h17, h18, h19, h20, h21, h22, h23, h24, h25, h26, h27, h28, h29, h30, h31, h32, h33, h34, h35, h36, h37, h38, h39, h40, h51, h52, h53, h54, h55, h56, h57, h58, h59, h60, h61, h62, h63, h64, h65, h66]
  clear h11 h0 h1 h2 h3 h4 h5 h6 h7 h8 h9 h12 h13 h14 h15 h16 h17 h18 h19 h20 h21 h22 h23 h24 h25 h26 h27 h28 h29 h30 h31 h32 h33 h34 h35 h36 h37 h38 h39 h40 h51 h52 h53 h54 h55 h56 h57 h58 h59 h60 h61 h62 h63 h64 h65 h66
  have hb2 := from_drew hS
  replace hB := hB.trans (hb2.mono hB.size)
  have hq2 := ((k_w.later hb2).at j).trans g2
  have hlt := (k_w.later hb2).lt
  have qX := (q5.later hb2).at
  unfold frBox at qX
  have HS := Lib.hid (fSame_any kf5 kf5 a5 none c5 0 w5 (r5.later hb2) (RowT.empty _ _))
  rw [decide_eq_true (rfl : kf5 = kf5)] at HS
  clear hS hb2 q5 r5 k_w k_r k_c HC1 HX HR g2
  go_wp2_with fail
  refine HS.out.mono ?_
  rintro e w6 ⟨rfl, hb⟩
  have hq3 := (hb.cell (p := ⟨rb + 1, j, none⟩) hlt).trans hq2
  go_wp2
  go_ret
  exact ⟨rfl, hB.trans (hb.mono hB.size)⟩

end Go.Proofs.Ytafcjdcmbklfkaa

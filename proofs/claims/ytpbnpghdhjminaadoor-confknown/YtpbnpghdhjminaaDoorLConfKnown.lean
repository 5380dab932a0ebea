/-
  ConfKnown's walk.
-/
import Derived.Test.YtpbnpghdhjminaaDoorLaw31
import Derived.Test.YtpbnpghdhjminaaDoorSlots
namespace Go.Proofs.YtpbnpghdhjminaaDoor
open Go.RowKit Plait
set_option linter.unusedVariables false
set_option linter.unusedSimpArgs false

/-- The network of the example. -/
def kc : Cf := ⟨8, 40, 4, 5, 65535, [7, -1]⟩
theorem kc_ok : kc.Ok := by constructor <;> simp [kc]

theorem kv1 : checkI kc = 0 := by decide
theorem kv2 : slotsI kc = 10 := by decide
theorem kv3 : mostI kc = 5 := by decide
theorem kv4 : windowI kc = 80 := by decide
theorem kv5 : limitI kc = 40 := by decide
theorem kM9 : mostI ⟨9, 0, 0, 0, 0, []⟩ = 5 := by decide
theorem kM6 : mostI ⟨6, 0, 0, 0, 0, []⟩ = 4 := by decide
theorem kM12 : mostI ⟨12, 0, 0, 0, 0, []⟩ = 7 := by decide
theorem kW0 : wireI kc 0 = 65535 := by decide
theorem kW1 : wireI kc 1 = 0 := by decide
theorem kW65537 : wireI kc 65537 = 0 := by decide
theorem kS16 : (owners kc (8) == [7, 0]) = true := by decide
theorem kS36 : (voters kc (8) == [1, 2, 3, 4, 5, 6]) = true := by decide
theorem kS44 : (voters kc (3) == [0, 1, 2, 4, 5, 6, 7]) = true := by decide
theorem kL9 : (owners kc (9)).length = 0 := by decide
theorem kL10 : (owners kc (10)).length = 0 := by decide
theorem kLm : (owners kc (-1)).length = 0 := by decide
theorem kLv : (voters kc (9)).length = 8 := by decide

structure KS (w : World) (cb : Nat) (ca : Option Addr) (W : World) : Prop where
  blk : Blk W cb 24 (confBox kc ca 2)
  row : Row W ca kc.P
  bnd : Bnds W
  bel : Below w.heap.size w W

theorem KS.later {w W W' : World} {cb : Nat} {ca : Option Addr} (h : KS w cb ca W) (hb : Below W.heap.size W W') : KS w cb ca W' :=
  ⟨h.blk.later hb, h.row.later hb, h.bnd.later hb, h.bel.trans (hb.mono h.bel.size)⟩

set_option maxRecDepth 100000 in
set_option maxHeartbeats 6400000 in
theorem confKnown_walk (wh : Int) (w : World) (hbd : Bnds w) (r1 : -9223372036854775808 ≤ wh) (r2 : wh ≤ 9223372036854775807) :
    Calls Tryd.prog 7 #[.int .i64 wh] w fun e w' => e = .returned (.bool true) ∧ Below w.heap.size w w' := by
  go_enter Tryd.func7, Tryd.ntmps7
  go_wp2_with fail
  refine (known3_any _ hbd).mono ?_
  rintro e w1 ⟨rfl, hB⟩
  have hS0 : KS w (w1.heap.size + 1) (some ⟨w1.heap.size, 0, none⟩) ((w1.alloc (.cells #[.int .i64 7, .int .i64 (-1)] 3)).alloc (.cells #[.int .i64 8, .int .i64 40, .int .i64 4, .int .i64 5, .int .i64 65535, .slice (some ⟨w1.heap.size, 0, none⟩) 2 2] 24)).drew :=
    ⟨Blk.newAt _ _ (by simp), ((Row.made w1 [7, -1] 3 (by simp) (by simp)).alloc _).drew1, ((hbd.later hB).later (((alloc_below w1 _).alloc (by simp) _).drew)), ((hB.alloc hB.size _).alloc (hB.alloc hB.size _).size _).drew⟩
  go_wp2_with fail
  dsimp only [List.append]
  generalize ((w1.alloc (.cells #[.int .i64 7, .int .i64 (-1)] 3)).alloc (.cells #[.int .i64 8, .int .i64 40, .int .i64 4, .int .i64 5, .int .i64 65535, .slice (some ⟨w1.heap.size, 0, none⟩) 2 2] 24)) = wg at hS0 ⊢
  generalize w1.heap.size = h1 at hS0 ⊢
  refine region_slots (KS w (h1 + 1) (some ⟨h1, 0, none⟩)) [some 9, some 10, some 11, some 12, some 13, some 14, some 15, some 16, some 17, some 18, some 19, some 20, some 21, some 22, some 23, some 24, some 25, some 26, some 27, some 28, some 29, some 30, some 31, some 32, some 33, some 34, some 35, some 36, some 37, some 38, some 39, some 40, some 41, some 42, some 43, some 44, some 45, some 46, some 47, some 48, some 49, some 50, some 51, some 52, some 53, some 54, some 55, some 56, some 57, some 58, some 59, some 60, some 61, some 62, some 63, some 64, some 65, some 66, some 67, some 68, some 69, some 70, some 71, some 72, some 73, some 74, some 75, some 76, some 77, some 78, some 79, some 80, some 81, some 82, some 83, some 84, some 85, some 86, some 4] 94 [(3, .pointer (some ⟨h1 + 1, 0, none⟩)), (0, .int .i64 wh)] (by kernel_rfl) (by kernel_rfl) ⟨by rfl, rfl, fun k v hk => by simp at hk; rcases hk with ⟨rfl, rfl⟩ | ⟨rfl, rfl⟩ <;> rfl⟩ hS0 ?_
  apply step_fix
  · intro a W hS hF hd
    have h3 := ev_get hF.size (hF.old 3 (.pointer (some ⟨h1 + 1, 0, none⟩)) (by simp))
    have hq := hS.blk.at
    unfold confBox at hq
    refine ⟨wanted_none rfl _, fun K hK => ?_⟩
    have HK := Lib.hid hK
    clear hd hF hK
    go_simp
    exact HK.out _ _ rfl hS (Below.refl _ _)
  simp only [List.nil_append, List.cons_append]
  apply step_fix
  · intro a W hS hF hd
    have h9 := ev_get hF.size (hd 0 9 rfl rfl)
    refine ⟨wanted_none rfl _, fun K hK => ?_⟩
    have HK := Lib.hid hK
    clear hd hF hK
    go_simp
    refine (ccheck_any kc (some ⟨h1, 0, none⟩) 2 _ hS.bnd hS.row).mono ?_
    rintro e W' ⟨rfl, hb⟩
    rw [kv1]
    exact HK.out _ _ rfl (hS.later hb) hb
  simp only [List.nil_append, List.cons_append]
  apply step_fix
  · intro a W hS hF hd
    have h10 := ev_get hF.size (hd 1 10 rfl rfl)
    refine ⟨wanted_none rfl _, fun K hK => ?_⟩
    have HK := Lib.hid hK
    clear hd hF hK
    go_simp
    exact HK.out _ _ rfl hS (Below.refl _ _)
  simp only [List.nil_append, List.cons_append]
  apply step_fix
  · intro a W hS hF hd
    have h3 := ev_get hF.size (hF.old 3 (.pointer (some ⟨h1 + 1, 0, none⟩)) (by simp))
    have hq := hS.blk.at
    unfold confBox at hq
    refine ⟨wanted_none rfl _, fun K hK => ?_⟩
    have HK := Lib.hid hK
    clear hd hF hK
    go_simp
    exact HK.out _ _ rfl hS (Below.refl _ _)
  simp only [List.nil_append, List.cons_append]
  apply step_fix
  · intro a W hS hF hd
    have h12 := ev_get hF.size (hd 3 12 rfl rfl)
    refine ⟨wanted_none rfl _, fun K hK => ?_⟩
    have HK := Lib.hid hK
    clear hd hF hK
    go_simp
    refine (cslots_any kc (some ⟨h1, 0, none⟩) 2 _ kc_ok).mono ?_
    rintro e W' ⟨rfl, hb⟩
    rw [kv2]
    exact HK.out _ _ rfl (hS.later hb) hb
  simp only [List.nil_append, List.cons_append]
  apply step_fix
  · intro a W hS hF hd
    have h13 := ev_get hF.size (hd 4 13 rfl rfl)
    refine ⟨wanted_none rfl _, fun K hK => ?_⟩
    have HK := Lib.hid hK
    clear hd hF hK
    go_simp
    exact HK.out _ _ rfl hS (Below.refl _ _)
  simp only [List.nil_append, List.cons_append]
  apply step_fix
  · intro a W hS hF hd
    have h3 := ev_get hF.size (hF.old 3 (.pointer (some ⟨h1 + 1, 0, none⟩)) (by simp))
    have hq := hS.blk.at
    unfold confBox at hq
    refine ⟨wanted_none rfl _, fun K hK => ?_⟩
    have HK := Lib.hid hK
    clear hd hF hK
    go_simp
    exact HK.out _ _ rfl hS (Below.refl _ _)
  simp only [List.nil_append, List.cons_append]
  refine step_row (owners kc (8)) ?_ ?_
  · intro a W hS hF hd
    have h15 := ev_get hF.size (hd 6 15 rfl rfl)
    refine ⟨wanted_none rfl _, fun K hK => ?_⟩
    have HK := Lib.hid hK
    clear hd hF hK
    go_simp
    refine (cowners_any kc (some ⟨h1, 0, none⟩) 2 (8) _ kc_ok (by unfold inI; omega) hS.row).mono ?_
    rintro e W' ⟨ra, rc, rfl, hr, _, hb⟩
    exact HK.out _ _ ⟨ra, rc, rfl, hr⟩ (hS.later hb) hb
  simp only [List.nil_append, List.cons_append]
  refine step_row [7, 0] ?_ ?_
  · intro a W hS hF hd
    refine ⟨wanted_none rfl _, fun K hK => ?_⟩
    have HK := Lib.hid hK
    clear hd hF hK
    go_simp
    exact HK.out _ _ ⟨_, _, rfl, Row.made W [7, 0] _ (by simp) (by simp)⟩ (hS.later (alloc_below _ _)) (alloc_below _ _)
  simp only [List.nil_append, List.cons_append]
  apply step_fix
  · intro a W hS hF hd
    obtain ⟨a16, c16, e16, q16⟩ := hd 7 16 rfl rfl
    have h16 := ev_get hF.size e16
    obtain ⟨a17, c17, e17, q17⟩ := hd 8 17 rfl rfl
    have h17 := ev_get hF.size e17
    refine ⟨wanted_none rfl _, fun K hK => ?_⟩
    have HK := Lib.hid hK
    clear hd hF hK
    go_simp
    refine (rsame_any a16 a17 _ _ c16 c17 _ q16 q17).mono ?_
    rintro e W' ⟨rfl, hb⟩
    rw [kS16]
    exact HK.out _ _ rfl (hS.later hb) hb
  simp only [List.nil_append, List.cons_append]
  apply step_fix
  · intro a W hS hF hd
    have h3 := ev_get hF.size (hF.old 3 (.pointer (some ⟨h1 + 1, 0, none⟩)) (by simp))
    have hq := hS.blk.at
    unfold confBox at hq
    refine ⟨wanted_none rfl _, fun K hK => ?_⟩
    have HK := Lib.hid hK
    clear hd hF hK
    go_simp
    exact HK.out _ _ rfl hS (Below.refl _ _)
  simp only [List.nil_append, List.cons_append]
  refine step_row (owners kc (9)) ?_ ?_
  · intro a W hS hF hd
    have h19 := ev_get hF.size (hd 10 19 rfl rfl)
    refine ⟨wanted_none rfl _, fun K hK => ?_⟩
    have HK := Lib.hid hK
    clear hd hF hK
    go_simp
    refine (cowners_any kc (some ⟨h1, 0, none⟩) 2 (9) _ kc_ok (by unfold inI; omega) hS.row).mono ?_
    rintro e W' ⟨ra, rc, rfl, hr, _, hb⟩
    exact HK.out _ _ ⟨ra, rc, rfl, hr⟩ (hS.later hb) hb
  simp only [List.nil_append, List.cons_append]
  apply step_fix
  · intro a W hS hF hd
    obtain ⟨a20, c20, e20, q20⟩ := hd 11 20 rfl rfl
    have h20 := ev_get hF.size e20
    refine ⟨wanted_none rfl _, fun K hK => ?_⟩
    have HK := Lib.hid hK
    clear hd hF hK
    go_simp
    rw [kL9]
    exact HK.out _ _ rfl hS (Below.refl _ _)
  simp only [List.nil_append, List.cons_append]
  apply step_fix
  · intro a W hS hF hd
    have h21 := ev_get hF.size (hd 12 21 rfl rfl)
    refine ⟨wanted_none rfl _, fun K hK => ?_⟩
    have HK := Lib.hid hK
    clear hd hF hK
    go_simp
    exact HK.out _ _ rfl hS (Below.refl _ _)
  simp only [List.nil_append, List.cons_append]
  apply step_fix
  · intro a W hS hF hd
    have h22 := ev_get hF.size (hd 13 22 rfl rfl)
    refine ⟨wanted_none rfl _, fun K hK => ?_⟩
    have HK := Lib.hid hK
    clear hd hF hK
    go_simp
    exact HK.out _ _ rfl hS (Below.refl _ _)
  simp only [List.nil_append, List.cons_append]
  apply step_fix
  · intro a W hS hF hd
    have h3 := ev_get hF.size (hF.old 3 (.pointer (some ⟨h1 + 1, 0, none⟩)) (by simp))
    have hq := hS.blk.at
    unfold confBox at hq
    refine ⟨wanted_at rfl rfl (hd 14 23 rfl rfl), fun K hK => ?_⟩
    have HK := Lib.hid hK
    clear hd hF hK
    go_simp
    exact HK.out _ _ rfl hS (Below.refl _ _)
  simp only [List.nil_append, List.cons_append]
  refine step_row (owners kc (10)) ?_ ?_
  · intro a W hS hF hd
    have h24 := ev_get hF.size (hd 15 24 rfl rfl)
    refine ⟨wanted_at rfl rfl (hd 14 23 rfl rfl), fun K hK => ?_⟩
    have HK := Lib.hid hK
    clear hd hF hK
    go_simp
    refine (cowners_any kc (some ⟨h1, 0, none⟩) 2 (10) _ kc_ok (by unfold inI; omega) hS.row).mono ?_
    rintro e W' ⟨ra, rc, rfl, hr, _, hb⟩
    exact HK.out _ _ ⟨ra, rc, rfl, hr⟩ (hS.later hb) hb
  simp only [List.nil_append, List.cons_append]
  apply step_fix
  · intro a W hS hF hd
    obtain ⟨a25, c25, e25, q25⟩ := hd 16 25 rfl rfl
    have h25 := ev_get hF.size e25
    refine ⟨wanted_at rfl rfl (hd 14 23 rfl rfl), fun K hK => ?_⟩
    have HK := Lib.hid hK
    clear hd hF hK
    go_simp
    rw [kL10]
    exact HK.out _ _ rfl hS (Below.refl _ _)
  simp only [List.nil_append, List.cons_append]
  apply step_fix
  · intro a W hS hF hd
    have h26 := ev_get hF.size (hd 17 26 rfl rfl)
    refine ⟨wanted_at rfl rfl (hd 14 23 rfl rfl), fun K hK => ?_⟩
    have HK := Lib.hid hK
    clear hd hF hK
    go_simp
    exact HK.out _ _ rfl hS (Below.refl _ _)
  simp only [List.nil_append, List.cons_append]
  apply step_fix
  · intro a W hS hF hd
    have h23 := ev_get hF.size (hd 14 23 rfl rfl)
    have h27 := ev_get hF.size (hd 18 27 rfl rfl)
    refine ⟨wanted_none rfl _, fun K hK => ?_⟩
    have HK := Lib.hid hK
    clear hd hF hK
    go_simp
    exact HK.out _ _ rfl hS (Below.refl _ _)
  simp only [List.nil_append, List.cons_append]
  apply step_fix
  · intro a W hS hF hd
    have h28 := ev_get hF.size (hd 19 28 rfl rfl)
    refine ⟨wanted_none rfl _, fun K hK => ?_⟩
    have HK := Lib.hid hK
    clear hd hF hK
    go_simp
    exact HK.out _ _ rfl hS (Below.refl _ _)
  simp only [List.nil_append, List.cons_append]
  apply step_fix
  · intro a W hS hF hd
    have h3 := ev_get hF.size (hF.old 3 (.pointer (some ⟨h1 + 1, 0, none⟩)) (by simp))
    have hq := hS.blk.at
    unfold confBox at hq
    refine ⟨wanted_at rfl rfl (hd 20 29 rfl rfl), fun K hK => ?_⟩
    have HK := Lib.hid hK
    clear hd hF hK
    go_simp
    exact HK.out _ _ rfl hS (Below.refl _ _)
  simp only [List.nil_append, List.cons_append]
  refine step_row (owners kc (-1)) ?_ ?_
  · intro a W hS hF hd
    have h30 := ev_get hF.size (hd 21 30 rfl rfl)
    refine ⟨wanted_at rfl rfl (hd 20 29 rfl rfl), fun K hK => ?_⟩
    have HK := Lib.hid hK
    clear hd hF hK
    go_simp
    refine (cowners_any kc (some ⟨h1, 0, none⟩) 2 (-1) _ kc_ok (by unfold inI; omega) hS.row).mono ?_
    rintro e W' ⟨ra, rc, rfl, hr, _, hb⟩
    exact HK.out _ _ ⟨ra, rc, rfl, hr⟩ (hS.later hb) hb
  simp only [List.nil_append, List.cons_append]
  apply step_fix
  · intro a W hS hF hd
    obtain ⟨a31, c31, e31, q31⟩ := hd 22 31 rfl rfl
    have h31 := ev_get hF.size e31
    refine ⟨wanted_at rfl rfl (hd 20 29 rfl rfl), fun K hK => ?_⟩
    have HK := Lib.hid hK
    clear hd hF hK
    go_simp
    rw [kLm]
    exact HK.out _ _ rfl hS (Below.refl _ _)
  simp only [List.nil_append, List.cons_append]
  apply step_fix
  · intro a W hS hF hd
    have h32 := ev_get hF.size (hd 23 32 rfl rfl)
    refine ⟨wanted_at rfl rfl (hd 20 29 rfl rfl), fun K hK => ?_⟩
    have HK := Lib.hid hK
    clear hd hF hK
    go_simp
    exact HK.out _ _ rfl hS (Below.refl _ _)
  simp only [List.nil_append, List.cons_append]
  apply step_fix
  · intro a W hS hF hd
    have h29 := ev_get hF.size (hd 20 29 rfl rfl)
    have h33 := ev_get hF.size (hd 24 33 rfl rfl)
    refine ⟨wanted_none rfl _, fun K hK => ?_⟩
    have HK := Lib.hid hK
    clear hd hF hK
    go_simp
    exact HK.out _ _ rfl hS (Below.refl _ _)
  simp only [List.nil_append, List.cons_append]
  apply step_fix
  · intro a W hS hF hd
    have h3 := ev_get hF.size (hF.old 3 (.pointer (some ⟨h1 + 1, 0, none⟩)) (by simp))
    have hq := hS.blk.at
    unfold confBox at hq
    refine ⟨wanted_none rfl _, fun K hK => ?_⟩
    have HK := Lib.hid hK
    clear hd hF hK
    go_simp
    exact HK.out _ _ rfl hS (Below.refl _ _)
  simp only [List.nil_append, List.cons_append]
  refine step_row (voters kc (8)) ?_ ?_
  · intro a W hS hF hd
    have h35 := ev_get hF.size (hd 26 35 rfl rfl)
    refine ⟨wanted_none rfl _, fun K hK => ?_⟩
    have HK := Lib.hid hK
    clear hd hF hK
    go_simp
    refine (cvoters_any kc (some ⟨h1, 0, none⟩) 2 (8) _ kc_ok (by unfold inI; omega) hS.row).mono ?_
    rintro e W' ⟨ra, rc, rfl, hr, _, hb⟩
    exact HK.out _ _ ⟨ra, rc, rfl, hr⟩ (hS.later hb) hb
  simp only [List.nil_append, List.cons_append]
  refine step_row [1, 2, 3, 4, 5, 6] ?_ ?_
  · intro a W hS hF hd
    refine ⟨wanted_none rfl _, fun K hK => ?_⟩
    have HK := Lib.hid hK
    clear hd hF hK
    go_simp
    exact HK.out _ _ ⟨_, _, rfl, Row.made W [1, 2, 3, 4, 5, 6] _ (by simp) (by simp)⟩ (hS.later (alloc_below _ _)) (alloc_below _ _)
  simp only [List.nil_append, List.cons_append]
  apply step_fix
  · intro a W hS hF hd
    obtain ⟨a36, c36, e36, q36⟩ := hd 27 36 rfl rfl
    have h36 := ev_get hF.size e36
    obtain ⟨a37, c37, e37, q37⟩ := hd 28 37 rfl rfl
    have h37 := ev_get hF.size e37
    refine ⟨wanted_none rfl _, fun K hK => ?_⟩
    have HK := Lib.hid hK
    clear hd hF hK
    go_simp
    refine (rsame_any a36 a37 _ _ c36 c37 _ q36 q37).mono ?_
    rintro e W' ⟨rfl, hb⟩
    rw [kS36]
    exact HK.out _ _ rfl (hS.later hb) hb
  simp only [List.nil_append, List.cons_append]
  apply step_fix
  · intro a W hS hF hd
    have h3 := ev_get hF.size (hF.old 3 (.pointer (some ⟨h1 + 1, 0, none⟩)) (by simp))
    have hq := hS.blk.at
    unfold confBox at hq
    refine ⟨wanted_none rfl _, fun K hK => ?_⟩
    have HK := Lib.hid hK
    clear hd hF hK
    go_simp
    exact HK.out _ _ rfl hS (Below.refl _ _)
  simp only [List.nil_append, List.cons_append]
  refine step_row (voters kc (9)) ?_ ?_
  · intro a W hS hF hd
    have h39 := ev_get hF.size (hd 30 39 rfl rfl)
    refine ⟨wanted_none rfl _, fun K hK => ?_⟩
    have HK := Lib.hid hK
    clear hd hF hK
    go_simp
    refine (cvoters_any kc (some ⟨h1, 0, none⟩) 2 (9) _ kc_ok (by unfold inI; omega) hS.row).mono ?_
    rintro e W' ⟨ra, rc, rfl, hr, _, hb⟩
    exact HK.out _ _ ⟨ra, rc, rfl, hr⟩ (hS.later hb) hb
  simp only [List.nil_append, List.cons_append]
  apply step_fix
  · intro a W hS hF hd
    obtain ⟨a40, c40, e40, q40⟩ := hd 31 40 rfl rfl
    have h40 := ev_get hF.size e40
    refine ⟨wanted_none rfl _, fun K hK => ?_⟩
    have HK := Lib.hid hK
    clear hd hF hK
    go_simp
    rw [kLv]
    exact HK.out _ _ rfl hS (Below.refl _ _)
  simp only [List.nil_append, List.cons_append]
  apply step_fix
  · intro a W hS hF hd
    have h41 := ev_get hF.size (hd 32 41 rfl rfl)
    refine ⟨wanted_none rfl _, fun K hK => ?_⟩
    have HK := Lib.hid hK
    clear hd hF hK
    go_simp
    exact HK.out _ _ rfl hS (Below.refl _ _)
  simp only [List.nil_append, List.cons_append]
  apply step_fix
  · intro a W hS hF hd
    have h3 := ev_get hF.size (hF.old 3 (.pointer (some ⟨h1 + 1, 0, none⟩)) (by simp))
    have hq := hS.blk.at
    unfold confBox at hq
    refine ⟨wanted_none rfl _, fun K hK => ?_⟩
    have HK := Lib.hid hK
    clear hd hF hK
    go_simp
    exact HK.out _ _ rfl hS (Below.refl _ _)
  simp only [List.nil_append, List.cons_append]
  refine step_row (voters kc (3)) ?_ ?_
  · intro a W hS hF hd
    have h43 := ev_get hF.size (hd 34 43 rfl rfl)
    refine ⟨wanted_none rfl _, fun K hK => ?_⟩
    have HK := Lib.hid hK
    clear hd hF hK
    go_simp
    refine (cvoters_any kc (some ⟨h1, 0, none⟩) 2 (3) _ kc_ok (by unfold inI; omega) hS.row).mono ?_
    rintro e W' ⟨ra, rc, rfl, hr, _, hb⟩
    exact HK.out _ _ ⟨ra, rc, rfl, hr⟩ (hS.later hb) hb
  simp only [List.nil_append, List.cons_append]
  refine step_row [0, 1, 2, 4, 5, 6, 7] ?_ ?_
  · intro a W hS hF hd
    refine ⟨wanted_none rfl _, fun K hK => ?_⟩
    have HK := Lib.hid hK
    clear hd hF hK
    go_simp
    exact HK.out _ _ ⟨_, _, rfl, Row.made W [0, 1, 2, 4, 5, 6, 7] _ (by simp) (by simp)⟩ (hS.later (alloc_below _ _)) (alloc_below _ _)
  simp only [List.nil_append, List.cons_append]
  apply step_fix
  · intro a W hS hF hd
    obtain ⟨a44, c44, e44, q44⟩ := hd 35 44 rfl rfl
    have h44 := ev_get hF.size e44
    obtain ⟨a45, c45, e45, q45⟩ := hd 36 45 rfl rfl
    have h45 := ev_get hF.size e45
    refine ⟨wanted_none rfl _, fun K hK => ?_⟩
    have HK := Lib.hid hK
    clear hd hF hK
    go_simp
    refine (rsame_any a44 a45 _ _ c44 c45 _ q44 q45).mono ?_
    rintro e W' ⟨rfl, hb⟩
    rw [kS44]
    exact HK.out _ _ rfl (hS.later hb) hb
  simp only [List.nil_append, List.cons_append]
  apply step_fix
  · intro a W hS hF hd
    have h3 := ev_get hF.size (hF.old 3 (.pointer (some ⟨h1 + 1, 0, none⟩)) (by simp))
    have hq := hS.blk.at
    unfold confBox at hq
    refine ⟨wanted_none rfl _, fun K hK => ?_⟩
    have HK := Lib.hid hK
    clear hd hF hK
    go_simp
    exact HK.out _ _ rfl hS (Below.refl _ _)
  simp only [List.nil_append, List.cons_append]
  apply step_fix
  · intro a W hS hF hd
    have h47 := ev_get hF.size (hd 38 47 rfl rfl)
    refine ⟨wanted_none rfl _, fun K hK => ?_⟩
    have HK := Lib.hid hK
    clear hd hF hK
    go_simp
    refine (cmost_any kc (some ⟨h1, 0, none⟩) 2 _ (by decide) (by decide)).mono ?_
    rintro e W' ⟨rfl, hb⟩
    rw [kv3]
    exact HK.out _ _ rfl (hS.later hb) hb
  simp only [List.nil_append, List.cons_append]
  apply step_fix
  · intro a W hS hF hd
    have h48 := ev_get hF.size (hd 39 48 rfl rfl)
    refine ⟨wanted_none rfl _, fun K hK => ?_⟩
    have HK := Lib.hid hK
    clear hd hF hK
    go_simp
    exact HK.out _ _ rfl hS (Below.refl _ _)
  simp only [List.nil_append, List.cons_append]
  apply step_fix
  · intro a W hS hF hd
    have h49 := ev_get hF.size (hd 40 49 rfl rfl)
    refine ⟨wanted_none rfl _, fun K hK => ?_⟩
    have HK := Lib.hid hK
    clear hd hF hK
    go_simp
    exact HK.out _ _ rfl hS (Below.refl _ _)
  simp only [List.nil_append, List.cons_append]
  apply step_fix
  · intro a W hS hF hd
    have h3 := ev_get hF.size (hF.old 3 (.pointer (some ⟨h1 + 1, 0, none⟩)) (by simp))
    have hq := hS.blk.at
    unfold confBox at hq
    refine ⟨wanted_at rfl rfl (hd 41 50 rfl rfl), fun K hK => ?_⟩
    have HK := Lib.hid hK
    clear hd hF hK
    go_simp
    exact HK.out _ _ rfl hS (Below.refl _ _)
  simp only [List.nil_append, List.cons_append]
  apply step_fix
  · intro a W hS hF hd
    have h51 := ev_get hF.size (hd 42 51 rfl rfl)
    refine ⟨wanted_at rfl rfl (hd 41 50 rfl rfl), fun K hK => ?_⟩
    have HK := Lib.hid hK
    clear hd hF hK
    go_simp
    refine (cwindow_any kc (some ⟨h1, 0, none⟩) 2 _ kc_ok).mono ?_
    rintro e W' ⟨rfl, hb⟩
    rw [kv4]
    exact HK.out _ _ rfl (hS.later hb) hb
  simp only [List.nil_append, List.cons_append]
  apply step_fix
  · intro a W hS hF hd
    have h52 := ev_get hF.size (hd 43 52 rfl rfl)
    refine ⟨wanted_at rfl rfl (hd 41 50 rfl rfl), fun K hK => ?_⟩
    have HK := Lib.hid hK
    clear hd hF hK
    go_simp
    exact HK.out _ _ rfl hS (Below.refl _ _)
  simp only [List.nil_append, List.cons_append]
  apply step_fix
  · intro a W hS hF hd
    have h50 := ev_get hF.size (hd 41 50 rfl rfl)
    have h53 := ev_get hF.size (hd 44 53 rfl rfl)
    refine ⟨wanted_none rfl _, fun K hK => ?_⟩
    have HK := Lib.hid hK
    clear hd hF hK
    go_simp
    exact HK.out _ _ rfl hS (Below.refl _ _)
  simp only [List.nil_append, List.cons_append]
  apply step_fix
  · intro a W hS hF hd
    have h54 := ev_get hF.size (hd 45 54 rfl rfl)
    refine ⟨wanted_none rfl _, fun K hK => ?_⟩
    have HK := Lib.hid hK
    clear hd hF hK
    go_simp
    exact HK.out _ _ rfl hS (Below.refl _ _)
  simp only [List.nil_append, List.cons_append]
  apply step_fix
  · intro a W hS hF hd
    have h3 := ev_get hF.size (hF.old 3 (.pointer (some ⟨h1 + 1, 0, none⟩)) (by simp))
    have hq := hS.blk.at
    unfold confBox at hq
    refine ⟨wanted_at rfl rfl (hd 46 55 rfl rfl), fun K hK => ?_⟩
    have HK := Lib.hid hK
    clear hd hF hK
    go_simp
    exact HK.out _ _ rfl hS (Below.refl _ _)
  simp only [List.nil_append, List.cons_append]
  apply step_fix
  · intro a W hS hF hd
    have h56 := ev_get hF.size (hd 47 56 rfl rfl)
    refine ⟨wanted_at rfl rfl (hd 46 55 rfl rfl), fun K hK => ?_⟩
    have HK := Lib.hid hK
    clear hd hF hK
    go_simp
    refine (climit_any kc (some ⟨h1, 0, none⟩) 2 _ kc_ok).mono ?_
    rintro e W' ⟨rfl, hb⟩
    rw [kv5]
    exact HK.out _ _ rfl (hS.later hb) hb
  simp only [List.nil_append, List.cons_append]
  apply step_fix
  · intro a W hS hF hd
    have h57 := ev_get hF.size (hd 48 57 rfl rfl)
    refine ⟨wanted_at rfl rfl (hd 46 55 rfl rfl), fun K hK => ?_⟩
    have HK := Lib.hid hK
    clear hd hF hK
    go_simp
    exact HK.out _ _ rfl hS (Below.refl _ _)
  simp only [List.nil_append, List.cons_append]
  apply step_fix
  · intro a W hS hF hd
    have h55 := ev_get hF.size (hd 46 55 rfl rfl)
    have h58 := ev_get hF.size (hd 49 58 rfl rfl)
    refine ⟨wanted_none rfl _, fun K hK => ?_⟩
    have HK := Lib.hid hK
    clear hd hF hK
    go_simp
    exact HK.out _ _ rfl hS (Below.refl _ _)
  simp only [List.nil_append, List.cons_append]
  apply step_fix
  · intro a W hS hF hd
    have h3 := ev_get hF.size (hF.old 3 (.pointer (some ⟨h1 + 1, 0, none⟩)) (by simp))
    have hq := hS.blk.at
    unfold confBox at hq
    refine ⟨wanted_none rfl _, fun K hK => ?_⟩
    have HK := Lib.hid hK
    clear hd hF hK
    go_simp
    exact HK.out _ _ rfl hS (Below.refl _ _)
  simp only [List.nil_append, List.cons_append]
  apply step_fix
  · intro a W hS hF hd
    have h60 := ev_get hF.size (hd 51 60 rfl rfl)
    refine ⟨wanted_none rfl _, fun K hK => ?_⟩
    have HK := Lib.hid hK
    clear hd hF hK
    go_simp
    refine (cwire_any kc (some ⟨h1, 0, none⟩) 2 0 _ kc_ok (by omega) (by omega)).mono ?_
    rintro e W' ⟨rfl, hb⟩
    rw [kW0]
    exact HK.out _ _ rfl (hS.later hb) hb
  simp only [List.nil_append, List.cons_append]
  apply step_fix
  · intro a W hS hF hd
    have h61 := ev_get hF.size (hd 52 61 rfl rfl)
    refine ⟨wanted_none rfl _, fun K hK => ?_⟩
    have HK := Lib.hid hK
    clear hd hF hK
    go_simp
    exact HK.out _ _ rfl hS (Below.refl _ _)
  simp only [List.nil_append, List.cons_append]
  apply step_fix
  · intro a W hS hF hd
    have h62 := ev_get hF.size (hd 53 62 rfl rfl)
    refine ⟨wanted_none rfl _, fun K hK => ?_⟩
    have HK := Lib.hid hK
    clear hd hF hK
    go_simp
    exact HK.out _ _ rfl hS (Below.refl _ _)
  simp only [List.nil_append, List.cons_append]
  apply step_fix
  · intro a W hS hF hd
    have h3 := ev_get hF.size (hF.old 3 (.pointer (some ⟨h1 + 1, 0, none⟩)) (by simp))
    have hq := hS.blk.at
    unfold confBox at hq
    refine ⟨wanted_at rfl rfl (hd 54 63 rfl rfl), fun K hK => ?_⟩
    have HK := Lib.hid hK
    clear hd hF hK
    go_simp
    exact HK.out _ _ rfl hS (Below.refl _ _)
  simp only [List.nil_append, List.cons_append]
  apply step_fix
  · intro a W hS hF hd
    have h64 := ev_get hF.size (hd 55 64 rfl rfl)
    refine ⟨wanted_at rfl rfl (hd 54 63 rfl rfl), fun K hK => ?_⟩
    have HK := Lib.hid hK
    clear hd hF hK
    go_simp
    refine (cwire_any kc (some ⟨h1, 0, none⟩) 2 1 _ kc_ok (by omega) (by omega)).mono ?_
    rintro e W' ⟨rfl, hb⟩
    rw [kW1]
    exact HK.out _ _ rfl (hS.later hb) hb
  simp only [List.nil_append, List.cons_append]
  apply step_fix
  · intro a W hS hF hd
    have h65 := ev_get hF.size (hd 56 65 rfl rfl)
    refine ⟨wanted_at rfl rfl (hd 54 63 rfl rfl), fun K hK => ?_⟩
    have HK := Lib.hid hK
    clear hd hF hK
    go_simp
    exact HK.out _ _ rfl hS (Below.refl _ _)
  simp only [List.nil_append, List.cons_append]
  apply step_fix
  · intro a W hS hF hd
    have h63 := ev_get hF.size (hd 54 63 rfl rfl)
    have h66 := ev_get hF.size (hd 57 66 rfl rfl)
    refine ⟨wanted_none rfl _, fun K hK => ?_⟩
    have HK := Lib.hid hK
    clear hd hF hK
    go_simp
    exact HK.out _ _ rfl hS (Below.refl _ _)
  simp only [List.nil_append, List.cons_append]
  apply step_fix
  · intro a W hS hF hd
    have h67 := ev_get hF.size (hd 58 67 rfl rfl)
    refine ⟨wanted_none rfl _, fun K hK => ?_⟩
    have HK := Lib.hid hK
    clear hd hF hK
    go_simp
    exact HK.out _ _ rfl hS (Below.refl _ _)
  simp only [List.nil_append, List.cons_append]
  apply step_fix
  · intro a W hS hF hd
    have h3 := ev_get hF.size (hF.old 3 (.pointer (some ⟨h1 + 1, 0, none⟩)) (by simp))
    have hq := hS.blk.at
    unfold confBox at hq
    refine ⟨wanted_at rfl rfl (hd 59 68 rfl rfl), fun K hK => ?_⟩
    have HK := Lib.hid hK
    clear hd hF hK
    go_simp
    exact HK.out _ _ rfl hS (Below.refl _ _)
  simp only [List.nil_append, List.cons_append]
  apply step_fix
  · intro a W hS hF hd
    have h69 := ev_get hF.size (hd 60 69 rfl rfl)
    refine ⟨wanted_at rfl rfl (hd 59 68 rfl rfl), fun K hK => ?_⟩
    have HK := Lib.hid hK
    clear hd hF hK
    go_simp
    refine (cwire_any kc (some ⟨h1, 0, none⟩) 2 65537 _ kc_ok (by omega) (by omega)).mono ?_
    rintro e W' ⟨rfl, hb⟩
    rw [kW65537]
    exact HK.out _ _ rfl (hS.later hb) hb
  simp only [List.nil_append, List.cons_append]
  apply step_fix
  · intro a W hS hF hd
    have h70 := ev_get hF.size (hd 61 70 rfl rfl)
    refine ⟨wanted_at rfl rfl (hd 59 68 rfl rfl), fun K hK => ?_⟩
    have HK := Lib.hid hK
    clear hd hF hK
    go_simp
    exact HK.out _ _ rfl hS (Below.refl _ _)
  simp only [List.nil_append, List.cons_append]
  apply step_fix
  · intro a W hS hF hd
    have h68 := ev_get hF.size (hd 59 68 rfl rfl)
    have h71 := ev_get hF.size (hd 62 71 rfl rfl)
    refine ⟨wanted_none rfl _, fun K hK => ?_⟩
    have HK := Lib.hid hK
    clear hd hF hK
    go_simp
    exact HK.out _ _ rfl hS (Below.refl _ _)
  simp only [List.nil_append, List.cons_append]
  apply step_fix
  · intro a W hS hF hd
    refine ⟨wanted_none rfl _, fun K hK => ?_⟩
    have HK := Lib.hid hK
    clear hd hF hK
    go_simp
    exact HK.out _ _ rfl hS (Below.refl _ _)
  simp only [List.nil_append, List.cons_append]
  apply step_fix
  · intro a W hS hF hd
    have h73 := ev_get hF.size (hd 64 73 rfl rfl)
    refine ⟨wanted_none rfl _, fun K hK => ?_⟩
    have HK := Lib.hid hK
    clear hd hF hK
    go_simp
    refine (cmost_any ⟨9, 0, 0, 0, 0, []⟩ none 0 _ (by decide) (by decide)).mono ?_
    rintro e W' ⟨rfl, hb⟩
    rw [kM9]
    exact HK.out _ _ rfl (hS.later hb) hb
  simp only [List.nil_append, List.cons_append]
  apply step_fix
  · intro a W hS hF hd
    have h74 := ev_get hF.size (hd 65 74 rfl rfl)
    refine ⟨wanted_none rfl _, fun K hK => ?_⟩
    have HK := Lib.hid hK
    clear hd hF hK
    go_simp
    exact HK.out _ _ rfl hS (Below.refl _ _)
  simp only [List.nil_append, List.cons_append]
  apply step_fix
  · intro a W hS hF hd
    have h75 := ev_get hF.size (hd 66 75 rfl rfl)
    refine ⟨wanted_none rfl _, fun K hK => ?_⟩
    have HK := Lib.hid hK
    clear hd hF hK
    go_simp
    exact HK.out _ _ rfl hS (Below.refl _ _)
  simp only [List.nil_append, List.cons_append]
  apply step_fix
  · intro a W hS hF hd
    refine ⟨wanted_at rfl rfl (hd 67 76 rfl rfl), fun K hK => ?_⟩
    have HK := Lib.hid hK
    clear hd hF hK
    go_simp
    exact HK.out _ _ rfl hS (Below.refl _ _)
  simp only [List.nil_append, List.cons_append]
  apply step_fix
  · intro a W hS hF hd
    have h77 := ev_get hF.size (hd 68 77 rfl rfl)
    refine ⟨wanted_at rfl rfl (hd 67 76 rfl rfl), fun K hK => ?_⟩
    have HK := Lib.hid hK
    clear hd hF hK
    go_simp
    refine (cmost_any ⟨6, 0, 0, 0, 0, []⟩ none 0 _ (by decide) (by decide)).mono ?_
    rintro e W' ⟨rfl, hb⟩
    rw [kM6]
    exact HK.out _ _ rfl (hS.later hb) hb
  simp only [List.nil_append, List.cons_append]
  apply step_fix
  · intro a W hS hF hd
    have h78 := ev_get hF.size (hd 69 78 rfl rfl)
    refine ⟨wanted_at rfl rfl (hd 67 76 rfl rfl), fun K hK => ?_⟩
    have HK := Lib.hid hK
    clear hd hF hK
    go_simp
    exact HK.out _ _ rfl hS (Below.refl _ _)
  simp only [List.nil_append, List.cons_append]
  apply step_fix
  · intro a W hS hF hd
    have h76 := ev_get hF.size (hd 67 76 rfl rfl)
    have h79 := ev_get hF.size (hd 70 79 rfl rfl)
    refine ⟨wanted_none rfl _, fun K hK => ?_⟩
    have HK := Lib.hid hK
    clear hd hF hK
    go_simp
    exact HK.out _ _ rfl hS (Below.refl _ _)
  simp only [List.nil_append, List.cons_append]
  apply step_fix
  · intro a W hS hF hd
    have h80 := ev_get hF.size (hd 71 80 rfl rfl)
    refine ⟨wanted_none rfl _, fun K hK => ?_⟩
    have HK := Lib.hid hK
    clear hd hF hK
    go_simp
    exact HK.out _ _ rfl hS (Below.refl _ _)
  simp only [List.nil_append, List.cons_append]
  apply step_fix
  · intro a W hS hF hd
    refine ⟨wanted_at rfl rfl (hd 72 81 rfl rfl), fun K hK => ?_⟩
    have HK := Lib.hid hK
    clear hd hF hK
    go_simp
    exact HK.out _ _ rfl hS (Below.refl _ _)
  simp only [List.nil_append, List.cons_append]
  apply step_fix
  · intro a W hS hF hd
    have h82 := ev_get hF.size (hd 73 82 rfl rfl)
    refine ⟨wanted_at rfl rfl (hd 72 81 rfl rfl), fun K hK => ?_⟩
    have HK := Lib.hid hK
    clear hd hF hK
    go_simp
    refine (cmost_any ⟨12, 0, 0, 0, 0, []⟩ none 0 _ (by decide) (by decide)).mono ?_
    rintro e W' ⟨rfl, hb⟩
    rw [kM12]
    exact HK.out _ _ rfl (hS.later hb) hb
  simp only [List.nil_append, List.cons_append]
  apply step_fix
  · intro a W hS hF hd
    have h83 := ev_get hF.size (hd 74 83 rfl rfl)
    refine ⟨wanted_at rfl rfl (hd 72 81 rfl rfl), fun K hK => ?_⟩
    have HK := Lib.hid hK
    clear hd hF hK
    go_simp
    exact HK.out _ _ rfl hS (Below.refl _ _)
  simp only [List.nil_append, List.cons_append]
  apply step_fix
  · intro a W hS hF hd
    have h81 := ev_get hF.size (hd 72 81 rfl rfl)
    have h84 := ev_get hF.size (hd 75 84 rfl rfl)
    refine ⟨wanted_none rfl _, fun K hK => ?_⟩
    have HK := Lib.hid hK
    clear hd hF hK
    go_simp
    exact HK.out _ _ rfl hS (Below.refl _ _)
  simp only [List.nil_append, List.cons_append]
  refine step_blk 10 4 #[.bool true, .bool true, .bool true, .bool true, .bool true, .bool true, .bool true, .bool true, .bool true, .bool true] ?_ ?_
  · intro a W hS hF hd
    have h11 := ev_get hF.size (hd 2 11 rfl rfl)
    have h14 := ev_get hF.size (hd 5 14 rfl rfl)
    have h18 := ev_get hF.size (hd 9 18 rfl rfl)
    have h34 := ev_get hF.size (hd 25 34 rfl rfl)
    have h38 := ev_get hF.size (hd 29 38 rfl rfl)
    have h42 := ev_get hF.size (hd 33 42 rfl rfl)
    have h46 := ev_get hF.size (hd 37 46 rfl rfl)
    have h59 := ev_get hF.size (hd 50 59 rfl rfl)
    have h72 := ev_get hF.size (hd 63 72 rfl rfl)
    have h85 := ev_get hF.size (hd 76 85 rfl rfl)
    refine ⟨wanted_none rfl _, fun K hK => ?_⟩
    have HK := Lib.hid hK
    clear hd hF hK
    go_simp
    exact HK.out _ _ ⟨_, rfl, Blk.new _ _ _⟩ (hS.later (alloc_below _ _)) (alloc_below _ _)
  simp only [List.nil_append, List.cons_append]
  refine step_blk 10 4 #[.bool true, .bool true, .bool true, .bool true, .bool true, .bool true, .bool true, .bool true, .bool true, .bool true] ?_ ?_
  · intro a W hS hF hd
    obtain ⟨b86, e86, q86⟩ := hd 77 86 rfl rfl
    have h86 := ev_get hF.size e86
    refine ⟨wanted_none rfl _, fun K hK => ?_⟩
    have HK := Lib.hid hK
    clear hd hF hK
    go_simp
    exact HK.out _ _ ⟨b86, rfl, q86⟩ hS (Below.refl _ _)
  simp only [List.nil_append, List.cons_append]
  intro a W hS hF hd
  obtain ⟨b, e4, q4⟩ := hd 78 4 rfl
  have e0 := hF.old 0 (.int .i64 wh) (by simp)
  have hsz := hF.size
  have hdf := hF.defers
  clear hd hF
  obtain ⟨t, df⟩ := a
  simp only at hsz hdf
  subst hdf
  obtain ⟨x, hx⟩ : ∃ x : Nat → Value, ∀ i, t.getD i undef = x i := ⟨fun i => t.getD i undef, fun _ => rfl⟩
  have h4 : x 4 = .slice (some ⟨b, 0, none⟩) 10 10 := (hx 4).symm.trans e4
  have h0 : x 0 = .int .i64 wh := (hx 0).symm.trans e0
  have ht := frame_lit t 94 hsz x hx
  clear hx e4 e0 hsz
  have ht' : t = #[x 0, x 1, x 2, x 3, x 4, x 5, x 6, x 7, x 8, x 9, x 10, x 11, x 12, x 13, x 14, x 15, x 16, x 17, x 18, x 19, x 20, x 21, x 22, x 23, x 24, x 25, x 26, x 27, x 28, x 29, x 30, x 31, x 32, x 33, x 34, x 35, x 36, x 37, x 38, x 39, x 40, x 41, x 42, x 43, x 44, x 45, x 46, x 47, x 48, x 49, x 50, x 51, x 52, x 53, x 54, x 55, x 56, x 57, x 58, x 59, x 60, x 61, x 62, x 63, x 64, x 65, x 66, x 67, x 68, x 69, x 70, x 71, x 72, x 73, x 74, x 75, x 76, x 77, x 78, x 79, x 80, x 81, x 82, x 83, x 84, x 85, x 86, x 87, x 88, x 89, x 90, x 91, x 92, x 93] := ht
  clear ht
  subst ht'
  rw [h4, h0]
  clear h4 h0
  go_wp2_with fail
  refine (within3_any wh 10 _ (by omega) (by omega)).mono ?_
  rintro e wl ⟨rfl, rfl⟩
  obtain ⟨j, hj, hj10⟩ : ∃ j : Nat, wh % 10 = (j : Int) ∧ j < 10 := ⟨(wh % 10).toNat, by omega, by omega⟩
  rw [hj]
  clear hj
  have hc : W.cell? ⟨b, j, none⟩ = some (.bool true) := by
    rw [q4.at]
    rcases (by omega : j = 0 ∨ j = 1 ∨ j = 2 ∨ j = 3 ∨ j = 4 ∨ j = 5 ∨ j = 6 ∨ j = 7 ∨ j = 8 ∨ j = 9) with rfl | rfl | rfl | rfl | rfl | rfl | rfl | rfl | rfl | rfl <;> rfl
  have j0 : (0 : Int) ≤ (j : Int) := by omega
  have j1 : (j : Int) < 10 := by omega
  go_wp2
  go_ret
  exact ⟨rfl, hS.bel⟩

end Go.Proofs.YtpbnpghdhjminaaDoor

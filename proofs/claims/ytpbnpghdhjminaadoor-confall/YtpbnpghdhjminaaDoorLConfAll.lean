/-
  ConfAll's walk.
-/
import Derived.Test.YtpbnpghdhjminaaDoorLaw31
namespace Go.Proofs.YtpbnpghdhjminaaDoor
open Go.RowKit Plait
set_option linter.unusedVariables false

/-- The loop over the two slots: wl is the world at its start. -/
def TwoAt (wl : World) (i : Value) (w' : World) : Prop := ∃ k : Nat, k ≤ 2 ∧ i = .int .i64 k ∧ Below wl.heap.size wl w'

set_option maxHeartbeats 6400000 in
theorem confAll_walk (c : Cf) (a : Option Addr) (cap : Nat) (sl rd : Int) (w : World) (hbd : Bnds w) (hrow : Row w a c.P) (iN : inI c.N) (iP : inI c.Pi) (iE : inI c.E) (iG : inI c.G) (iF : inI c.F) (r1 : -9223372036854775808 ≤ sl) (r2 : sl ≤ 9223372036854775807) (r3 : -9223372036854775808 ≤ rd) (r4 : rd ≤ 9223372036854775807) :
    Calls Tryd.prog 4 #[.agg #[.int .i64 c.N, .int .i64 c.Pi, .int .i64 c.E, .int .i64 c.G, .int .i64 c.F, .slice a c.P.length cap], .int .i64 sl, .int .i64 rd] w fun e w' => e = .returned (.bool true) ∧ Below w.heap.size w w' := by
  go_enter Tryd.func4, Tryd.ntmps4
  go_wp2_with fail
  refine (known3_any _ (hbd.later (alloc_below _ _))).mono ?_
  rintro e wn ⟨rfl, hb⟩
  obtain ⟨hB, hK, hZ⟩ := boxed hb
  have hQ := hK.at
  clear hb
  go_wp2_with fail
  refine (make_any c a cap _ (hrow.later hB)).mono ?_
  rintro e wn ⟨ga, gc, rfl, hrg, hfg, hb⟩
  clear hQ
  obtain ⟨hB, hK, hZ⟩ := boxed_on hB hK hb
  have hQ := hK.at
  clear hb
  clear hfg hQ
  have hok := makeC_ok c
  generalize makeC c = g at hok hrg ⊢
  have hBg : Below w.heap.size w (wn.alloc (.cells #[.int .i64 g.N, .int .i64 g.Pi, .int .i64 g.E, .int .i64 g.G, .int .i64 g.F, .slice ga g.P.length gc] 24)) := hB.alloc hB.size _
  have hKg : Blk (wn.alloc (.cells #[.int .i64 g.N, .int .i64 g.Pi, .int .i64 g.E, .int .i64 g.G, .int .i64 g.F, .slice ga g.P.length gc] 24)) wn.heap.size 24 (confBox g ga gc) := Blk.new wn _ _
  replace hrg := hrg.alloc (.cells #[.int .i64 g.N, .int .i64 g.Pi, .int .i64 g.E, .int .i64 g.G, .int .i64 g.F, .slice ga g.P.length gc] 24)
  have hbdg := (hbd.later hB).later (alloc_below wn (.cells #[.int .i64 g.N, .int .i64 g.Pi, .int .i64 g.E, .int .i64 g.G, .int .i64 g.F, .slice ga g.P.length gc] 24))
  go_wp2_with fail
  generalize wn.alloc (.cells #[.int .i64 g.N, .int .i64 g.Pi, .int .i64 g.E, .int .i64 g.G, .int .i64 g.F, .slice ga g.P.length gc] 24) = wg at hBg hKg hrg hbdg ⊢
  generalize wn.heap.size = gb at hKg ⊢
  clear hB hK hZ
  have hQg := hKg.at
  unfold confBox at hQg
  have n6 := hok.n6; have n12 := hok.n12; have p3 := hok.len
  refine (within3_any rd 1073741824 _ (by omega) (by omega)).mono ?_
  rintro e wl ⟨rfl, rfl⟩
  have t0 : 0 ≤ rd % 1073741824 := by omega
  have t1 : rd % 1073741824 < 1073741824 := by omega
  generalize rd % 1073741824 = r at *
  go_wp2_with fail
  refine (cslots_any g ga gc _ hok).mono ?_
  rintro e wg ⟨rfl, hb⟩
  clear hQg
  replace hBg := hBg.trans (hb.mono hBg.size)
  replace hKg := hKg.later hb
  replace hrg := hrg.later hb
  have hQg := hKg.at
  unfold confBox at hQg
  clear hb
  have s0 : 0 < slotsI g := by unfold slotsI; omega
  have s1 : slotsI g ≤ 15 := by unfold slotsI; omega
  go_wp2_with fail
  refine (within3_any sl (slotsI g + 3) _ (by omega) (by omega)).mono ?_
  rintro e wl ⟨rfl, rfl⟩
  have u0 : 0 ≤ sl % (slotsI g + 3) := Int.emod_nonneg _ (by omega)
  have u1 : sl % (slotsI g + 3) < slotsI g + 3 := Int.emod_lt_of_pos _ (by omega)
  generalize sl % (slotsI g + 3) = q at *
  have hRl := Row.made wg [sl, q - 1] 3 (by simp) (by simp; omega)
  have hBl := hBg.alloc hBg.size (.cells (([sl, q - 1] : List Int).map (Value.int .i64)).toArray 3)
  have hKl := hKg.alloc (.cells (([sl, q - 1] : List Int).map (Value.int .i64)).toArray 3)
  have hrl := hrg.alloc (.cells (([sl, q - 1] : List Int).map (Value.int .i64)).toArray 3)
  simp only [List.map_cons, List.map_nil] at hRl hBl hKl hrl
  go_wp2
  clear hQg hBg hKg hrg
  generalize wg.alloc (.cells #[.int .i64 sl, .int .i64 (q - 1)] 3) = wl at hRl hBl hKl hrl ⊢
  generalize wg.heap.size = sb at hRl ⊢
  go_loopw [9] (fun i w' => TwoAt wl i w') (fun i _ => 2 - (intOf i).toNat)
  case atStart => exact ⟨0, by omega, rfl, Below.refl _ _⟩
  case round =>
    obtain ⟨k, hk, rfl, hb⟩ := hrel
    have hKg := hKl.later hb
    have hrg := hrl.later hb
    have hBg := hBl.trans (hb.mono hBl.size)
    have hRr := hRl.later hb
    by_cases hlt : k < 2
    · have d1 : decide ((k : Int) < 2) = true := by simp; omega
      obtain ⟨b, off, e1, hbl, hcell, hx1, hx2⟩ := hRr.get k (by simpa using hlt)
      injection e1 with e1
      injection e1 with e2 e3
      subst e2 e3
      generalize ([sl, q - 1] : List Int)[k]'(by simpa using hlt) = x at *
      have hx : inI x := ⟨hx1, hx2⟩
      have g0 : (0 : Int) ≤ (k : Int) := by omega
      have g1 : (k : Int) < 2 := by omega
      have dO : (owners g x == owners g x) = true := by simp
      have dV : (voters g x == voters g x) = true := by simp
      simp only [Nat.zero_add] at hcell
      go_wp2
      go_region_held3 (fun W => W.cell? ⟨sb, k, none⟩ = some (.int .i64 x) ∧ W.cell? ⟨gb, 0, none⟩ = some (.int .i64 g.N) ∧ W.cell? ⟨gb, 1, none⟩ = some (.int .i64 g.Pi) ∧ W.cell? ⟨gb, 2, none⟩ = some (.int .i64 g.E) ∧ W.cell? ⟨gb, 3, none⟩ = some (.int .i64 g.G) ∧ W.cell? ⟨gb, 4, none⟩ = some (.int .i64 g.F) ∧ W.cell? ⟨gb, 5, none⟩ = some (.slice ga g.P.length gc) ∧ Blk W gb 24 (confBox g ga gc) ∧ Row W ga g.P ∧ Below wl.heap.size wl W) (first | assumption | exact ⟨hcell, gs_mk hKg.drew1 hrg.drew1 hb.drew⟩ | exact gs_next1 ‹_› hbm)
        (first
        | (go_at_call 16; refine (cowners_any g ga gc x _ hok hx (gs_out (w := wl) (gb := gb) (g := g) (ga := ga) (gc := gc) (And.right ‹_›)).2.1).mono ?_; rintro e wm ⟨a1, c1, rfl, hr1, hf1, hbm⟩)
        | (go_at_call 17; refine (rowners_any g ga gc x _ hok hx (gs_out (w := wl) (gb := gb) (g := g) (ga := ga) (gc := gc) (And.right ‹_›)).2.1).mono ?_; rintro e wm ⟨a2, c2, rfl, hr2, hf2, hbm⟩; replace hr1 := hr1.later hbm)
        | (go_at_call 18; refine (cvoters_any g ga gc x _ hok hx (gs_out (w := wl) (gb := gb) (g := g) (ga := ga) (gc := gc) (And.right ‹_›)).2.1).mono ?_; rintro e wm ⟨a3, c3, rfl, hr3, hf3, hbm⟩)
        | (go_at_call 19; refine (rvoters_any g ga gc x _ hok hx (gs_out (w := wl) (gb := gb) (g := g) (ga := ga) (gc := gc) (And.right ‹_›)).2.1).mono ?_; rintro e wm ⟨a4, c4, rfl, hr4, hf4, hbm⟩; replace hr3 := hr3.later hbm)
        | (go_at_call 15; (with_reducible refine (rsame_any a1 a2 (owners g x) (owners g x) c1 c2 _ hr1 hr2).mono ?_); rintro e wm ⟨rfl, hbm⟩; rw [dO])
        | (go_at_call 15; (with_reducible refine (rsame_any a3 a4 (voters g x) (voters g x) c3 c4 _ hr3 hr4).mono ?_); rintro e wm ⟨rfl, hbm⟩; rw [dV]))
      go_wp2
      go_roundw
      case rel => exact ⟨k + 1, by omega, by go_num, (gs_out (w := wl) (gb := gb) (g := g) (ga := ga) (gc := gc) (And.right ‹_›)).2.2⟩
      case measure => simp [intOf]; omega
    · have d1 : decide ((k : Int) < 2) = false := by simp; omega
      have hQg := hKg.at
      clear hQg
      obtain ⟨I, F, i0, h0, hF0, hF1, hF2, hF3, hF4, hF5, hFK, hFcl⟩ := gs_class hKg hrg hBg
      have HFK := Lib.hid hFK
      have HFC := Lib.hid hFcl
      have H0 := Lib.hid h0
      clear hFK hFcl h0
      haveI : Nonempty I := ⟨i0⟩
      go_wp2_with fail
      refine wp_region_class F i0 H0.out (by kernel_rfl) (by kernel_rfl) ?_
      repeat (go_big_quiet_step ((first | (go_at_call 14; exact class_call HFC.out (cslots_any g ga gc _ hok)) | (go_at_call 20; exact class_call HFC.out (rslots_any g ga gc _ hok)) | (go_at_call 21; exact class_call HFC.out (cmost_any g ga gc _ (by omega) n12)) | (go_at_call 22; exact class_call HFC.out (rmost_any g ga gc _ (by omega) n12)) | (go_at_call 23; exact class_call HFC.out (cwindow_any g ga gc _ hok)) | (go_at_call 24; exact class_call HFC.out (rwindow_any g ga gc _ hok)) | (go_at_call 25; exact class_call HFC.out (climit_any g ga gc _ hok)) | (go_at_call 26; exact class_call HFC.out (rlimit_any g ga gc _ hok)) | (go_at_call 27; exact class_call HFC.out (cwire_any g ga gc r _ hok t0 (by omega))) | (go_at_call 28; exact class_call HFC.out (rwire_any g ga gc r _ hok t0 (by omega))))))
      refine wpQuiet_nil ?_
      intro _ hw'
      obtain ⟨iq, hw''⟩ := hw'
      subst hw''
      clear hKg hrg hBg hF0 hF1 hF2 hF3 hF4 hF5 HFC H0
      obtain ⟨hKg, hrg, hBg⟩ := HFK.out iq
      clear HFK
      generalize F iq = wg at *
      have hQg := hKg.at
      unfold confBox at hQg
      go_wp2
      go_ret
      exact ⟨rfl, hBg⟩

end Go.Proofs.YtpbnpghdhjminaaDoor

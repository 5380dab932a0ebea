/-
  FrameOther's walk.
-/
import Derived.Test.YtafcjdcmbklfkaaLaw53
import Derived.Test.YtafcjdcmbklfkaaSlots3
namespace Go.Proofs.Ytafcjdcmbklfkaa
open Go.RowKit Plait
set_option linter.unusedVariables false
set_option linter.unusedSimpArgs false

theorem RowT.far2 {w : World} {a : Option Addr} {ts : List It} (h : RowT w a ts) (g i : Nat) (u : Value) (hne : ts = [] ∨ ∀ x, a = some x → x.block ≠ g) : RowT (w.setCell ⟨g, i, none⟩ u) a ts := by
  obtain ⟨h1, h2, h3⟩ := h
  refine ⟨h1, h2, ?_⟩
  rcases h3 with h3 | ⟨b, off, rfl, hlt, hc⟩
  · exact .inl h3
  · rcases hne with hne | hne
    · exact .inl hne
    · have hb : b ≠ g := hne _ rfl
      refine .inr ⟨b, off, rfl, by simpa [World.setCell] using hlt, fun i hi => ?_⟩
      rw [World.cell?_setCell_other _ _ _ _ (fun e => hb (by injection e with e1; exact e1.symm)), World.cell?_setCell_other _ _ _ _ (fun e => hb (by injection e with e1; exact e1.symm))]
      exact hc i hi

set_option maxRecDepth 100000 in
set_option maxHeartbeats 6400000 in
theorem frameOther_walk (c : Cf) (a : Option Addr) (cap : Nat) (f : Fr) (fa : Option Addr) (fc : Nat) (na : Option Addr) (ns : List Int) (nc : Nat) (more : Int) (w : World) (hrow : Row w a c.P) (iN : inI c.N) (iP : inI c.Pi) (iE : inI c.E) (iG : inI c.G) (iF : inI c.F)
    (hfE : RowT w fa f.E) (iK : inI f.K) (iR : inI f.R) (iS : inI f.S) (iQ : inI f.P.K) (iV : inI f.P.V) (hns : Row w na ns) (mo1 : -9223372036854775808 ≤ more) (mo2 : more ≤ 9223372036854775807) :
    Calls Try.prog 11 #[.agg #[.int .i64 c.N, .int .i64 c.Pi, .int .i64 c.E, .int .i64 c.G, .int .i64 c.F, .slice a c.P.length cap], .agg #[.int .i64 f.K, .int .i64 f.R, .int .i64 f.S, .int .i64 f.P.K, .int .i64 f.P.V, .slice fa f.E.length fc], .slice na ns.length nc, .int .i64 more] w fun e w' => e = .returned (.bool true) ∧ Below w.heap.size w w' := by
  have hB1 : Below w.heap.size w (w.alloc (.cells #[.int .i64 c.N, .int .i64 c.Pi, .int .i64 c.E, .int .i64 c.G, .int .i64 c.F, .slice a c.P.length cap] 24)) := alloc_below w _
  have k_c : Blk (w.alloc (.cells #[.int .i64 c.N, .int .i64 c.Pi, .int .i64 c.E, .int .i64 c.G, .int .i64 c.F, .slice a c.P.length cap] 24)) w.heap.size 24 (confBox c a cap) := Blk.newAt _ _ rfl
  have hB2 : Below w.heap.size w ((w.alloc (.cells #[.int .i64 c.N, .int .i64 c.Pi, .int .i64 c.E, .int .i64 c.G, .int .i64 c.F, .slice a c.P.length cap] 24)).alloc (.cells #[.int .i64 f.K, .int .i64 f.R, .int .i64 f.S, .int .i64 f.P.K, .int .i64 f.P.V, .slice fa f.E.length fc] 29)) := hB1.alloc hB1.size _
  replace k_c := k_c.alloc (.cells #[.int .i64 f.K, .int .i64 f.R, .int .i64 f.S, .int .i64 f.P.K, .int .i64 f.P.V, .slice fa f.E.length fc] 29)
  have k_f : Blk ((w.alloc (.cells #[.int .i64 c.N, .int .i64 c.Pi, .int .i64 c.E, .int .i64 c.G, .int .i64 c.F, .slice a c.P.length cap] 24)).alloc (.cells #[.int .i64 f.K, .int .i64 f.R, .int .i64 f.S, .int .i64 f.P.K, .int .i64 f.P.V, .slice fa f.E.length fc] 29)) (w.heap.size + 1) 29 (frBox f fa fc) := Blk.newAt _ _ (by simp)
  have hB := hB2
  clear hB1 hB2
  go_enter Try.func11, Try.ntmps11
  go_wp2_with fail
  refine (known5_any _).mono ?_
  rintro e wn ⟨rfl, hb⟩
  replace hB := hB.trans (hb.mono hB.size)
  replace k_c := k_c.later hb
  replace k_f := k_f.later hb
  clear hb
  have qC := k_c.at
  unfold confBox at qC
  go_wp2_with fail
  refine (make_any2 c a cap _ (hrow.later hB)).mono ?_
  rintro e wm ⟨da, dc, rfl, hrd, hfd, hcp, hb⟩
  replace hB := hB.trans (hb.mono hB.size)
  replace k_f := k_f.later hb
  clear hb qC k_c hfd
  have hok := makeC_ok c
  generalize makeC c = d at *
  have hdb := k_f.lt
  have hD : Blk (wm.alloc (.cells #[.int .i64 d.N, .int .i64 d.Pi, .int .i64 d.E, .int .i64 d.G, .int .i64 d.F, .slice da d.P.length dc] 24)) wm.heap.size 24 (confBox d da dc) := Blk.new wm _ _
  replace hB := hB.alloc hB.size (.cells #[.int .i64 d.N, .int .i64 d.Pi, .int .i64 d.E, .int .i64 d.G, .int .i64 d.F, .slice da d.P.length dc] 24)
  replace k_f := k_f.alloc (.cells #[.int .i64 d.N, .int .i64 d.Pi, .int .i64 d.E, .int .i64 d.G, .int .i64 d.F, .slice da d.P.length dc] 24)
  replace hrd := hrd.alloc (.cells #[.int .i64 d.N, .int .i64 d.Pi, .int .i64 d.E, .int .i64 d.G, .int .i64 d.F, .slice da d.P.length dc] 24)
  go_upto_region 4 with fail
  generalize wm.alloc (.cells #[.int .i64 d.N, .int .i64 d.Pi, .int .i64 d.E, .int .i64 d.G, .int .i64 d.F, .slice da d.P.length dc] 24) = wn at *
  generalize wm.heap.size = db at *
  have qF := k_f.at
  unfold frBox at qF
  have zF := k_f.frozen
  have iS' : -9223372036854775808 ≤ f.S ∧ f.S ≤ 9223372036854775807 := iS
  go_wp2_with fail
  refine (within5_any f.S 6 _ (by omega) (by omega)).mono ?_
  rintro e wl ⟨rfl, rfl⟩
  clear qF zF
  have k2 := k_f.set 0 (.int .i64 2)
  have qF := k2.at
  unfold frBox at qF
  have zF := k2.frozen
  simp at qF
  go_upto_region 6 with fail
  have k3 : Blk ((wn.setCell ⟨w.heap.size + 1, 0, none⟩ (.int .i64 2)).setCell ⟨w.heap.size + 1, 2, none⟩ (.int .i64 (f.S % 6))) (w.heap.size + 1) 29 (frBox ⟨2, f.R, f.S % 6, f.P, f.E⟩ fa fc) := k2.set 2 (.int .i64 (f.S % 6))
  replace hD := (hD.far (p := ⟨w.heap.size + 1, 0, none⟩) (by show db ≠ w.heap.size + 1; omega) (.int .i64 2)).far (p := ⟨w.heap.size + 1, 2, none⟩) (by show db ≠ w.heap.size + 1; omega) (.int .i64 (f.S % 6))
  have hB2 : Below w.heap.size w ((wn.setCell ⟨w.heap.size + 1, 0, none⟩ (.int .i64 2)).setCell ⟨w.heap.size + 1, 2, none⟩ (.int .i64 (f.S % 6))) := (hB.setCell (p := ⟨w.heap.size + 1, 0, none⟩) (by simp) _).setCell (p := ⟨w.heap.size + 1, 2, none⟩) (by simp) _
  clear qF zF k2 k_f hB
  generalize (wn.setCell ⟨w.heap.size + 1, 0, none⟩ (.int .i64 2)).setCell ⟨w.heap.size + 1, 2, none⟩ (.int .i64 (f.S % 6)) = w2 at *
  have s0 : 0 ≤ f.S % 6 := by omega
  have s1 : f.S % 6 < 6 := by omega
  generalize f.S % 6 = s at *
  have qF := k3.at
  unfold frBox at qF
  have qD := hD.at
  unfold confBox at qD
  have hokg := makeF_ok d ⟨2, f.R, s, f.P, f.E⟩ ns hok
  have n6 := hok.n6
  have n12 := hok.n12
  have hsl : slotsI d = d.N + d.P.length := rfl
  have hg : (makeF d ⟨2, f.R, s, f.P, f.E⟩ ns).K = 3 ∧ (makeF d ⟨2, f.R, s, f.P, f.E⟩ ns).S = s := by
    have e1 : s % slotsI d = s := Int.emod_eq_of_lt s0 (by omega)
    have e2 : makeK d ⟨2, f.R, s, f.P, f.E⟩ = 3 := by
      unfold makeK
      show (if d.N ≤ s % slotsI d then (3 : Int) else 1 + 2 % 3) = 3
      rw [e1, if_neg (by omega)]
      rfl
    unfold makeF
    rw [if_pos e2]
    exact ⟨rfl, e1⟩
  have hgn0 := hB2.size
  go_wp2_with fail
  refine (make5_any d da dc ⟨2, f.R, s, f.P, f.E⟩ fa fc na ns nc _ hok (hns.later hB2) ⟨by show (-9223372036854775808 : Int) ≤ 2; decide, by show (2 : Int) ≤ 9223372036854775807; decide⟩ iR ⟨by show -9223372036854775808 ≤ s; omega, by show s ≤ 9223372036854775807; omega⟩ iV).mono ?_
  rintro e wm ⟨ga, gc, rfl, hrg, hfg, hb⟩
  replace hB := hB2.trans (hb.mono hB2.size)
  replace hD := hD.later hb
  have hgn1 := hrg.2.2
  clear hb qD qF hfg hns k3 hB2
  have HG := Lib.hid hg
  clear hg
  generalize makeF d ⟨2, f.R, s, f.P, f.E⟩ ns = g at *
  have k_g : Blk ((wm.alloc (.cells #[.int .i64 g.K, .int .i64 g.R, .int .i64 g.S, .int .i64 g.P.K, .int .i64 g.P.V, .slice ga g.E.length gc] 29)).alloc (.cells #[.int .i64 d.N, .int .i64 d.Pi, .int .i64 d.E, .int .i64 d.G, .int .i64 d.F, .slice da d.P.length dc] 24)) wm.heap.size 29 (frBox g ga gc) := (Blk.new wm _ _).alloc _
  have k_e : Blk ((wm.alloc (.cells #[.int .i64 g.K, .int .i64 g.R, .int .i64 g.S, .int .i64 g.P.K, .int .i64 g.P.V, .slice ga g.E.length gc] 29)).alloc (.cells #[.int .i64 d.N, .int .i64 d.Pi, .int .i64 d.E, .int .i64 d.G, .int .i64 d.F, .slice da d.P.length dc] 24)) (wm.heap.size + 1) 24 (confBox d da dc) := Blk.newAt _ _ (by simp)
  have hdb2 := hD.lt
  have hgne : g.E = [] ∨ ∀ x, ga = some x → x.block ≠ wm.heap.size + 1 := hgn1.imp id fun ⟨b, off, e, hlt, _⟩ x hx => by rw [e] at hx; injection hx with hx; subst hx; show b ≠ _; omega
  clear hgn1
  have qD2 := (hD.alloc (.cells #[.int .i64 g.K, .int .i64 g.R, .int .i64 g.S, .int .i64 g.P.K, .int .i64 g.P.V, .slice ga g.E.length gc] 29)).at
  replace hD := (hD.alloc (.cells #[.int .i64 g.K, .int .i64 g.R, .int .i64 g.S, .int .i64 g.P.K, .int .i64 g.P.V, .slice ga g.E.length gc] 29)).alloc (.cells #[.int .i64 d.N, .int .i64 d.Pi, .int .i64 d.E, .int .i64 d.G, .int .i64 d.F, .slice da d.P.length dc] 24)
  replace hrg := (hrg.alloc (.cells #[.int .i64 g.K, .int .i64 g.R, .int .i64 g.S, .int .i64 g.P.K, .int .i64 g.P.V, .slice ga g.E.length gc] 29)).alloc (.cells #[.int .i64 d.N, .int .i64 d.Pi, .int .i64 d.E, .int .i64 d.G, .int .i64 d.F, .slice da d.P.length dc] 24)
  have hwm := hB.size
  replace hB := (hB.alloc hB.size (.cells #[.int .i64 g.K, .int .i64 g.R, .int .i64 g.S, .int .i64 g.P.K, .int .i64 g.P.V, .slice ga g.E.length gc] 29)).alloc (hB.alloc hB.size (.cells #[.int .i64 g.K, .int .i64 g.R, .int .i64 g.S, .int .i64 g.P.K, .int .i64 g.P.V, .slice ga g.E.length gc] 29)).size (.cells #[.int .i64 d.N, .int .i64 d.Pi, .int .i64 d.E, .int .i64 d.G, .int .i64 d.F, .slice da d.P.length dc] 24)
  unfold confBox at qD2
  go_upto_region 8 with fail
  generalize (wm.alloc (.cells #[.int .i64 g.K, .int .i64 g.R, .int .i64 g.S, .int .i64 g.P.K, .int .i64 g.P.V, .slice ga g.E.length gc] 29)).alloc (.cells #[.int .i64 d.N, .int .i64 d.Pi, .int .i64 d.E, .int .i64 d.G, .int .i64 d.F, .slice da d.P.length dc] 24) = w3 at *
  clear qD2
  generalize wm.heap.size = gb at *
  obtain ⟨h6, h7⟩ : g.S < 6 ∧ slotsI d ≤ 15 := ⟨by have := HG.out.2; omega, by have := hok.len; omega⟩
  have h15 := (ok_small hok hokg).2.2.2.2.2
  have hl := textF_length g
  have HT := Lib.hid (fun W (h : RowT W ga g.E) => fText_ok d da dc g ga gc W hok hokg h)
  have qE := k_e.at
  unfold confBox at qE
  have zE := k_e.frozen
  have hdbg : db ≠ gb + 1 := by omega
  have hall := hok.all
  have hlen := hok.len
  by_cases h0 : d.P.length = 0
  · have z0 : decide (0 < d.P.length) = false := decide_eq_false (by omega)
    have H0 := Lib.hid h0
    clear h0
    have HW := Lib.hid (fun W => within5_any more 6 W (by omega) (by omega))
    have m0 : 0 ≤ more % 6 := by omega
    have m1 : more % 6 < 6 := by omega
    generalize more % 6 = m at *
    go_upto_region 10 with fail
    go_wp2_with fail
    refine (HW.out _).mono ?_
    rintro e wl ⟨rfl, rfl⟩
    have k_e2 : Blk ((w3.alloc (.cells #[.int .i64 m] 3)).setCell ⟨gb + 1, 5, none⟩ (.slice (some ⟨w3.heap.size, 0, none⟩) 1 1)) (gb + 1) 24 (confBox ⟨d.N, d.Pi, d.E, d.G, d.F, [m]⟩ (some ⟨w3.heap.size, 0, none⟩) 1) := (k_e.alloc _).set 5 _
    have zE2 := (k_e.alloc (.cells #[.int .i64 m] 3)).frozen
    have qE2 := (k_e.alloc (.cells #[.int .i64 m] 3)).at
    unfold confBox at qE2
    replace hD := (hD.alloc (.cells #[.int .i64 m] 3)).far (p := ⟨gb + 1, 5, none⟩) (by exact hdbg) (.slice (some ⟨w3.heap.size, 0, none⟩) 1 1)
    replace k_g := (k_g.alloc (.cells #[.int .i64 m] 3)).far (p := ⟨gb + 1, 5, none⟩) (by show gb ≠ gb + 1; omega) (.slice (some ⟨w3.heap.size, 0, none⟩) 1 1)
    replace hrg := (hrg.alloc (.cells #[.int .i64 m] 3)).far2 (gb + 1) 5 (.slice (some ⟨w3.heap.size, 0, none⟩) 1 1) hgne
    replace hB := (hB.alloc hB.size (.cells #[.int .i64 m] 3)).setCell (p := ⟨gb + 1, 5, none⟩) (by show w.heap.size ≤ gb + 1; omega) (.slice (some ⟨w3.heap.size, 0, none⟩) 1 1)
    go_upto_region 11 with fail
    generalize (w3.alloc (.cells #[.int .i64 m] 3)).setCell ⟨gb + 1, 5, none⟩ (.slice (some ⟨w3.heap.size, 0, none⟩) 1 1) = w4 at *
    clear zE2 qE2 qE zE k_e
    have hoke : Cf.Ok ⟨d.N, d.Pi, d.E, d.G, d.F, [m]⟩ := ⟨hok.n6, hok.n12, hok.e0, hok.e1, hok.g0, hok.g1, hok.f0, hok.f1, hok.p0, hok.p1, by simp, by simp; omega⟩
    have hne : slotsI ⟨d.N, d.Pi, d.E, d.G, d.F, [m]⟩ ≠ slotsI d := by have := H0.out; show d.N + ((1 : Nat) : Int) ≠ _; omega
    obtain ⟨e, ea, ec, hoke, hN, hne, k_e⟩ : ∃ (e : Cf) (ea : Option Addr) (ec : Nat), e.Ok ∧ e.N = d.N ∧ slotsI e ≠ slotsI d ∧ Blk w4 (gb + 1) 24 (confBox e ea ec) := ⟨_, _, _, hoke, rfl, hne, k_e2⟩
    clear k_e2
    have hR := other_refused d e g hok hokg HG.out.1 (by have := HG.out.2; omega) hN hne
    have hC : checkF e g = 2 := by
      rcases hR.2 with h | h
      · exact h
      · have := HG.out.2; have := hoke.n6; have he : slotsI e = e.N + e.P.length := rfl; omega
    have HR := Lib.hid (fun W => fRead_at e ea ec (textF g) W hoke (by omega) _ _ hR.1)
    have HC := Lib.hid (fun W (h : RowT W ga g.E) => fCheck_any e ea ec g ga gc W hoke h)
    have HS := Lib.hid (fun W (h : RowT W ga g.E) => rSame5_any g g ga ga gc gc W h h)
    have HL1 := Lib.hid (fun W => rslots_any d da dc W hok)
    have HL2 := Lib.hid (fun W => rslots_any e ea ec W hoke)
    rw [hC] at HC
    rw [decide_eq_true (rfl : g = g)] at HS
    have hgK := HG.out.1
    have d1 : (g.K == 3) = true := by simpa using hgK
    have d2 : decide (g.S < 6) = true := by simpa using h6
    have d3 : (slotsI d != slotsI e) = true := by simp; omega
    clear hR hC hgK HG hokg H0 hN hne hsl
    generalize textF g = l at *
    go_upto_region 11 with fail
    refine region_slots [some 45, some 46, some 47, some 48, some 49, some 44, some 50, some 51, some 12, none, some 13] [none, none, none, none, none, none, none, none, none, some 8, none] 82 [(9, .pointer (some ⟨db, 0, none⟩)), (10, .pointer (some ⟨gb, 0, none⟩)), (11, .pointer (some ⟨gb + 1, 0, none⟩))] (by kernel_rfl) (by kernel_rfl) ⟨by rfl, by rfl, by intro k v hk; simp only [List.mem_cons, List.not_mem_nil, or_false, Prod.mk.injEq] at hk; rcases hk with ⟨rfl, rfl⟩ | ⟨rfl, rfl⟩ | ⟨rfl, rfl⟩ <;> rfl⟩ ?_
    apply step_fix
    · intro a W Zs hS hFm hz hd
      have h11 := ev_get hFm.size (hFm.old 11 (.pointer (some ⟨gb + 1, 0, none⟩)) (by simp))
      have hq := (k_e.drew1.later hS).at
      unfold confBox at hq
      refine .inl ⟨wanted_none rfl _, fun K hK => ?_⟩
      have HK := Lib.hid hK
      clear hd hFm hK
      go_simp
      exact HK.out _ _ rfl (Below.refl _ _)
    simp only [List.nil_append, List.cons_append]
    apply step_fix
    · intro a W Zs hS hFm hz hd
      have h9 := ev_get hFm.size (hFm.old 9 (.pointer (some ⟨db, 0, none⟩)) (by simp))
      have hq := (hD.drew1.later hS).at
      unfold confBox at hq
      refine .inl ⟨wanted_none rfl _, fun K hK => ?_⟩
      have HK := Lib.hid hK
      clear hd hFm hK
      go_simp
      exact HK.out _ _ rfl (Below.refl _ _)
    simp only [List.nil_append, List.cons_append]
    apply step_fix
    · intro a W Zs hS hFm hz hd
      have h10 := ev_get hFm.size (hFm.old 10 (.pointer (some ⟨gb, 0, none⟩)) (by simp))
      have hq := (k_g.drew1.later hS).at
      unfold frBox at hq
      refine .inl ⟨wanted_none rfl _, fun K hK => ?_⟩
      have HK := Lib.hid hK
      clear hd hFm hK
      go_simp
      exact HK.out _ _ rfl (Below.refl _ _)
    simp only [List.nil_append, List.cons_append]
    apply step_fix
    · intro a W Zs hS hFm hz hd
      have h46 := ev_get hFm.size (hd 1 46 rfl rfl)
      have h47 := ev_get hFm.size (hd 2 47 rfl rfl)
      refine .inl ⟨wanted_none rfl _, fun K hK => ?_⟩
      have HK := Lib.hid hK
      clear hd hFm hK
      go_simp
      refine (HT.out _ (hrg.drew1.later hS)).mono ?_
      rintro e W' ⟨rfl, hb⟩
      exact HK.out _ _ rfl hb
    simp only [List.nil_append, List.cons_append]
    refine step_of (rdF _ (zeroF) (2)) (rdF_good _ _ _) ?_ ?_
    · intro a W Zs hS hFm hz hd
      have h45 := ev_get hFm.size (hd 0 45 rfl rfl)
      have h48 := ev_get hFm.size (hd 3 48 rfl rfl)
      refine .inl ⟨wanted_none rfl _, fun K hK => ?_⟩
      have HK := Lib.hid hK
      clear hd hFm hK
      go_simp
      refine (HR.out _).mono ?_
      rintro e W' ⟨ra, rc, rfl, hr, hfr, hb⟩
      exact HK.out _ _ ⟨ra, rc, rfl, hr, hr.foot hfr⟩ hb
    simp only [List.nil_append, List.cons_append]
    refine step_of (rdF _ (zeroF) (2)) (rdF_good _ _ _) ?_ ?_
    · intro a W Zs hS hFm hz hd
      obtain ⟨a49, c49, e49, r49, f49⟩ := hd 4 49 rfl rfl
      have h49 := ev_get hFm.size e49
      refine .inl ⟨wanted_none rfl _, fun K hK => ?_⟩
      have HK := Lib.hid hK
      clear hd hFm hK
      go_simp
      exact HK.out _ _ ⟨a49, c49, rfl, r49, ft_mono f49 (foot_dep 4 rfl rfl rfl)⟩ (Below.refl _ _)
    simp only [List.nil_append, List.cons_append]
    refine step_of (frF _ (zeroF)) (frF_good _ _) ?_ ?_
    · intro a W Zs hS hFm hz hd
      obtain ⟨a44, c44, e44, r44, f44⟩ := hd 5 44 rfl rfl
      have h44 := ev_get hFm.size e44
      refine .inl ⟨wanted_none rfl _, fun K hK => ?_⟩
      have HK := Lib.hid hK
      clear hd hFm hK
      go_simp
      exact HK.out _ _ ⟨a44, c44, rfl, r44, ft_mono f44 (foot_dep 5 rfl rfl rfl)⟩ (Below.refl _ _)
    simp only [List.nil_append, List.cons_append]
    apply step_fix
    · intro a W Zs hS hFm hz hd
      obtain ⟨a44, c44, e44, r44, f44⟩ := hd 5 44 rfl rfl
      have h44 := ev_get hFm.size e44
      refine .inl ⟨wanted_none rfl _, fun K hK => ?_⟩
      have HK := Lib.hid hK
      clear hd hFm hK
      go_simp
      exact HK.out _ _ rfl (Below.refl _ _)
    simp only [List.nil_append, List.cons_append]
    refine step_of (boxF _ 29 6) (boxF_good _ _ _) ?_ ?_
    · intro a W Zs hS hFm hz hd
      refine .inl ⟨wanted_none rfl _, fun K hK => ?_⟩
      have HK := Lib.hid hK
      clear hd hFm hK
      go_simp
      exact HK.out _ _ ⟨_, _, rfl, rfl, Blk.new _ _ _, .inl ⟨Nat.le_refl _, by simp⟩⟩ (alloc_below _ _)
    simp only [List.nil_append, List.cons_append]
    refine step_of (frBoxF _ (zeroF)) (frBoxF_good _ _) ?_ ?_
    · intro a W Zs hS hFm hz hd hap
      obtain ⟨b12, cs12, e12, n12, q12, z12⟩ := hd 8 12 rfl rfl
      have h12 := ev_get hFm.size e12
      obtain ⟨a50, c50, e50, r50, f50⟩ := hd 6 50 rfl rfl
      have h50 := ev_get hFm.size e50
      have hB0 := (hz 8 _ rfl z12).1
      obtain ⟨u0, u1, u2, u3, u4, u5, rfl⟩ := arr6 n12
      have hq := q12.at
      have hfz := q12.frozen
      refine ⟨wanted_none rfl _, b12, z12, fun K hK => ?_⟩
      have HK := Lib.hid hK
      clear hd hFm hK
      go_simp
      exact HK.out undef _ (Only.fill6 _ _ _ _ _ _ _ _) (fun d hd' => by injection hd' with hd'; subst hd'; exact ⟨⟨b12, a50, c50, e12, q12.fill6 _ _ _ _ _ _, r50.agree f50 (store_apart (Only.fill6 W b12 _ _ _ _ _ _) hB0 z12 hap 6 rfl (by decide)), .inr (.inl rfl), ft_mono f50 (foot_depS 6 rfl rfl rfl)⟩, ⟨b12, _, e12, rfl, q12.fill6 _ _ _ _ _ _, z12⟩⟩)
    simp only [List.nil_append, List.cons_append]
    apply step_fix
    · intro a W Zs hS hFm hz hd
      have h51 := ev_get hFm.size (hd 7 51 rfl rfl)
      refine .inl ⟨wanted_none rfl _, fun K hK => ?_⟩
      have HK := Lib.hid hK
      clear hd hFm hK
      go_simp
      exact HK.out _ _ rfl (Below.refl _ _)
    simp only [List.nil_append, List.cons_append]
    intro a w5 Zs hS hFm hz hd
    have e13 := hd 10 13 rfl
    have e9 := hFm.old 9 (.pointer (some ⟨db, 0, none⟩)) (by simp)
    have e10 := hFm.old 10 (.pointer (some ⟨gb, 0, none⟩)) (by simp)
    have e11 := hFm.old 11 (.pointer (some ⟨gb + 1, 0, none⟩)) (by simp)
    have hsz := hFm.size
    have hdf := hFm.defers
    clear hd hFm
    obtain ⟨t, df⟩ := a
    simp only at hsz hdf
    subst hdf
    obtain ⟨x, hx⟩ : ∃ x : Nat → Value, ∀ i, t.getD i undef = x i := ⟨fun i => t.getD i undef, fun _ => rfl⟩
    have h13 := (hx 13).symm.trans e13
    have h9 := (hx 9).symm.trans e9
    have h10 := (hx 10).symm.trans e10
    have h11 := (hx 11).symm.trans e11
    have ht' : t = #[x 0, x 1, x 2, x 3, x 4, x 5, x 6, x 7, x 8, x 9, x 10, x 11, x 12, x 13, x 14, x 15, x 16, x 17, x 18, x 19, x 20, x 21, x 22, x 23, x 24, x 25, x 26, x 27, x 28, x 29, x 30, x 31, x 32, x 33, x 34, x 35, x 36, x 37, x 38, x 39, x 40, x 41, x 42, x 43, x 44, x 45, x 46, x 47, x 48, x 49, x 50, x 51, x 52, x 53, x 54, x 55, x 56, x 57, x 58, x 59, x 60, x 61, x 62, x 63, x 64, x 65, x 66, x 67, x 68, x 69, x 70, x 71, x 72, x 73, x 74, x 75, x 76, x 77, x 78, x 79, x 80, x 81] := frame_lit t 82 hsz x hx
    clear hx hsz hz e13 e9 e10 e11
    subst ht'
    dsimp only
    rw [h13, h9, h10, h11]
    clear h13 h9 h10 h11
    have hb2 := from_drew hS
    replace hB := hB.trans (hb2.mono hB.size)
    replace hD := hD.later hb2
    replace k_g := k_g.later hb2
    replace k_e := k_e.later hb2
    replace hrg := hrg.later hb2
    clear hS hb2 HT HR
    go_upto_region 12 with fail
    refine region_slots [some 52, some 53, some 54, some 55, some 56, some 57, some 58, some 59, some 60, some 61, some 62, some 63, some 64, some 65, some 66, some 67, some 68, some 69, some 70, some 71, some 72, some 73, some 74, some 75, some 76, some 77, some 78, some 79, some 80, some 81, some 8] [none, none, none, none, none, none, none, none, none, none, none, none, none, none, none, none, none, none, none, none, none, none, none, none, none, none, none, none, none, none, none] 82 [(9, .pointer (some ⟨db, 0, none⟩)), (10, .pointer (some ⟨gb, 0, none⟩)), (11, .pointer (some ⟨gb + 1, 0, none⟩)), (13, .int .i64 2)] (by kernel_rfl) (by kernel_rfl) ⟨by rfl, by rfl, by intro k v hk; simp only [List.mem_cons, List.not_mem_nil, or_false, Prod.mk.injEq] at hk; rcases hk with ⟨rfl, rfl⟩ | ⟨rfl, rfl⟩ | ⟨rfl, rfl⟩ | ⟨rfl, rfl⟩ <;> rfl⟩ ?_
    apply step_fix
    · intro a W Zs hS hFm hz hd
      have h10 := ev_get hFm.size (hFm.old 10 (.pointer (some ⟨gb, 0, none⟩)) (by simp))
      refine .inl ⟨wanted_none rfl _, fun K hK => ?_⟩
      have HK := Lib.hid hK
      clear hd hFm hK
      go_simp
      exact HK.out _ _ rfl (Below.refl _ _)
    simp only [List.nil_append, List.cons_append]
    apply step_fix
    · intro a W Zs hS hFm hz hd
      have h52 := ev_get hFm.size (hd 0 52 rfl rfl)
      have hq := (k_g.drew1.later hS).at
      unfold frBox at hq
      refine .inl ⟨wanted_none rfl _, fun K hK => ?_⟩
      have HK := Lib.hid hK
      clear hd hFm hK
      go_simp
      exact HK.out _ _ rfl (Below.refl _ _)
    simp only [List.nil_append, List.cons_append]
    apply step_fix
    · intro a W Zs hS hFm hz hd
      have h53 := ev_get hFm.size (hd 1 53 rfl rfl)
      refine .inl ⟨wanted_none rfl _, fun K hK => ?_⟩
      have HK := Lib.hid hK
      clear hd hFm hK
      go_simp
      exact HK.out _ _ rfl (Below.refl _ _)
    simp only [List.nil_append, List.cons_append]
    apply step_fix
    · intro a W Zs hS hFm hz hd
      have h54 := ev_get hFm.size (hd 2 54 rfl rfl)
      refine .inl ⟨wanted_none rfl _, fun K hK => ?_⟩
      have HK := Lib.hid hK
      clear hd hFm hK
      go_simp
      exact HK.out _ _ rfl (Below.refl _ _)
    simp only [List.nil_append, List.cons_append]
    apply step_fix
    · intro a W Zs hS hFm hz hd
      have h10 := ev_get hFm.size (hFm.old 10 (.pointer (some ⟨gb, 0, none⟩)) (by simp))
      refine .inl ⟨wanted_at rfl rfl (hd 3 55 rfl rfl), fun K hK => ?_⟩
      have HK := Lib.hid hK
      clear hd hFm hK
      go_simp
      exact HK.out _ _ rfl (Below.refl _ _)
    simp only [List.nil_append, List.cons_append]
    apply step_fix
    · intro a W Zs hS hFm hz hd
      have h56 := ev_get hFm.size (hd 4 56 rfl rfl)
      have hq := (k_g.drew1.later hS).at
      unfold frBox at hq
      refine .inl ⟨wanted_at rfl rfl (hd 3 55 rfl rfl), fun K hK => ?_⟩
      have HK := Lib.hid hK
      clear hd hFm hK
      go_simp
      exact HK.out _ _ rfl (Below.refl _ _)
    simp only [List.nil_append, List.cons_append]
    apply step_fix
    · intro a W Zs hS hFm hz hd
      have h57 := ev_get hFm.size (hd 5 57 rfl rfl)
      refine .inl ⟨wanted_at rfl rfl (hd 3 55 rfl rfl), fun K hK => ?_⟩
      have HK := Lib.hid hK
      clear hd hFm hK
      go_simp
      exact HK.out _ _ rfl (Below.refl _ _)
    simp only [List.nil_append, List.cons_append]
    apply step_fix
    · intro a W Zs hS hFm hz hd
      have h55 := ev_get hFm.size (hd 3 55 rfl rfl)
      have h58 := ev_get hFm.size (hd 6 58 rfl rfl)
      refine .inl ⟨wanted_none rfl _, fun K hK => ?_⟩
      have HK := Lib.hid hK
      clear hd hFm hK
      go_simp
      exact HK.out _ _ rfl (Below.refl _ _)
    simp only [List.nil_append, List.cons_append]
    apply step_fix
    · intro a W Zs hS hFm hz hd
      have h59 := ev_get hFm.size (hd 7 59 rfl rfl)
      refine .inl ⟨wanted_none rfl _, fun K hK => ?_⟩
      have HK := Lib.hid hK
      clear hd hFm hK
      go_simp
      exact HK.out _ _ rfl (Below.refl _ _)
    simp only [List.nil_append, List.cons_append]
    apply step_fix
    · intro a W Zs hS hFm hz hd
      have h13 := ev_get hFm.size (hFm.old 13 (.int .i64 2) (by simp))
      refine .inl ⟨wanted_at rfl rfl (hd 8 60 rfl rfl), fun K hK => ?_⟩
      have HK := Lib.hid hK
      clear hd hFm hK
      go_simp
      exact HK.out _ _ rfl (Below.refl _ _)
    simp only [List.nil_append, List.cons_append]
    apply step_fix
    · intro a W Zs hS hFm hz hd
      have h61 := ev_get hFm.size (hd 9 61 rfl rfl)
      refine .inl ⟨wanted_at rfl rfl (hd 8 60 rfl rfl), fun K hK => ?_⟩
      have HK := Lib.hid hK
      clear hd hFm hK
      go_simp
      exact HK.out _ _ rfl (Below.refl _ _)
    simp only [List.nil_append, List.cons_append]
    apply step_fix
    · intro a W Zs hS hFm hz hd
      have h60 := ev_get hFm.size (hd 8 60 rfl rfl)
      have h62 := ev_get hFm.size (hd 10 62 rfl rfl)
      refine .inl ⟨wanted_none rfl _, fun K hK => ?_⟩
      have HK := Lib.hid hK
      clear hd hFm hK
      go_simp
      exact HK.out _ _ rfl (Below.refl _ _)
    simp only [List.nil_append, List.cons_append]
    apply step_fix
    · intro a W Zs hS hFm hz hd
      have h63 := ev_get hFm.size (hd 11 63 rfl rfl)
      refine .inl ⟨wanted_none rfl _, fun K hK => ?_⟩
      have HK := Lib.hid hK
      clear hd hFm hK
      go_simp
      exact HK.out _ _ rfl (Below.refl _ _)
    simp only [List.nil_append, List.cons_append]
    apply step_fix
    · intro a W Zs hS hFm hz hd
      have h11 := ev_get hFm.size (hFm.old 11 (.pointer (some ⟨gb + 1, 0, none⟩)) (by simp))
      have hq := (k_e.drew1.later hS).at
      unfold confBox at hq
      refine .inl ⟨wanted_at rfl rfl (hd 12 64 rfl rfl), fun K hK => ?_⟩
      have HK := Lib.hid hK
      clear hd hFm hK
      go_simp
      exact HK.out _ _ rfl (Below.refl _ _)
    simp only [List.nil_append, List.cons_append]
    apply step_fix
    · intro a W Zs hS hFm hz hd
      have h10 := ev_get hFm.size (hFm.old 10 (.pointer (some ⟨gb, 0, none⟩)) (by simp))
      have hq := (k_g.drew1.later hS).at
      unfold frBox at hq
      refine .inl ⟨wanted_at rfl rfl (hd 12 64 rfl rfl), fun K hK => ?_⟩
      have HK := Lib.hid hK
      clear hd hFm hK
      go_simp
      exact HK.out _ _ rfl (Below.refl _ _)
    simp only [List.nil_append, List.cons_append]
    apply step_fix
    · intro a W Zs hS hFm hz hd
      have h65 := ev_get hFm.size (hd 13 65 rfl rfl)
      have h66 := ev_get hFm.size (hd 14 66 rfl rfl)
      refine .inl ⟨wanted_at rfl rfl (hd 12 64 rfl rfl), fun K hK => ?_⟩
      have HK := Lib.hid hK
      clear hd hFm hK
      go_simp
      refine (HC.out _ (hrg.drew1.later hS)).mono ?_
      rintro e W' ⟨rfl, hb⟩
      exact HK.out _ _ rfl hb
    simp only [List.nil_append, List.cons_append]
    apply step_fix
    · intro a W Zs hS hFm hz hd
      have h67 := ev_get hFm.size (hd 15 67 rfl rfl)
      refine .inl ⟨wanted_at rfl rfl (hd 12 64 rfl rfl), fun K hK => ?_⟩
      have HK := Lib.hid hK
      clear hd hFm hK
      go_simp
      exact HK.out _ _ rfl (Below.refl _ _)
    simp only [List.nil_append, List.cons_append]
    apply step_fix
    · intro a W Zs hS hFm hz hd
      have h64 := ev_get hFm.size (hd 12 64 rfl rfl)
      have h68 := ev_get hFm.size (hd 16 68 rfl rfl)
      refine .inl ⟨wanted_none rfl _, fun K hK => ?_⟩
      have HK := Lib.hid hK
      clear hd hFm hK
      go_simp
      exact HK.out _ _ rfl (Below.refl _ _)
    simp only [List.nil_append, List.cons_append]
    apply step_fix
    · intro a W Zs hS hFm hz hd
      have h69 := ev_get hFm.size (hd 17 69 rfl rfl)
      refine .inl ⟨wanted_none rfl _, fun K hK => ?_⟩
      have HK := Lib.hid hK
      clear hd hFm hK
      go_simp
      exact HK.out _ _ rfl (Below.refl _ _)
    simp only [List.nil_append, List.cons_append]
    apply step_fix
    · intro a W Zs hS hFm hz hd
      have h9 := ev_get hFm.size (hFm.old 9 (.pointer (some ⟨db, 0, none⟩)) (by simp))
      have hq := (hD.drew1.later hS).at
      unfold confBox at hq
      refine .inl ⟨wanted_at rfl rfl (hd 18 70 rfl rfl), fun K hK => ?_⟩
      have HK := Lib.hid hK
      clear hd hFm hK
      go_simp
      exact HK.out _ _ rfl (Below.refl _ _)
    simp only [List.nil_append, List.cons_append]
    apply step_fix
    · intro a W Zs hS hFm hz hd
      have h71 := ev_get hFm.size (hd 19 71 rfl rfl)
      refine .inl ⟨wanted_at rfl rfl (hd 18 70 rfl rfl), fun K hK => ?_⟩
      have HK := Lib.hid hK
      clear hd hFm hK
      go_simp
      refine (HL1.out _).mono ?_
      rintro e W' ⟨rfl, hb⟩
      exact HK.out _ _ rfl hb
    simp only [List.nil_append, List.cons_append]
    apply step_fix
    · intro a W Zs hS hFm hz hd
      have h11 := ev_get hFm.size (hFm.old 11 (.pointer (some ⟨gb + 1, 0, none⟩)) (by simp))
      have hq := (k_e.drew1.later hS).at
      unfold confBox at hq
      refine .inl ⟨wanted_at rfl rfl (hd 18 70 rfl rfl), fun K hK => ?_⟩
      have HK := Lib.hid hK
      clear hd hFm hK
      go_simp
      exact HK.out _ _ rfl (Below.refl _ _)
    simp only [List.nil_append, List.cons_append]
    apply step_fix
    · intro a W Zs hS hFm hz hd
      have h73 := ev_get hFm.size (hd 21 73 rfl rfl)
      refine .inl ⟨wanted_at rfl rfl (hd 18 70 rfl rfl), fun K hK => ?_⟩
      have HK := Lib.hid hK
      clear hd hFm hK
      go_simp
      refine (HL2.out _).mono ?_
      rintro e W' ⟨rfl, hb⟩
      exact HK.out _ _ rfl hb
    simp only [List.nil_append, List.cons_append]
    apply step_fix
    · intro a W Zs hS hFm hz hd
      have h72 := ev_get hFm.size (hd 20 72 rfl rfl)
      have h74 := ev_get hFm.size (hd 22 74 rfl rfl)
      refine .inl ⟨wanted_at rfl rfl (hd 18 70 rfl rfl), fun K hK => ?_⟩
      have HK := Lib.hid hK
      clear hd hFm hK
      go_simp
      exact HK.out _ _ rfl (Below.refl _ _)
    simp only [List.nil_append, List.cons_append]
    apply step_fix
    · intro a W Zs hS hFm hz hd
      have h70 := ev_get hFm.size (hd 18 70 rfl rfl)
      have h75 := ev_get hFm.size (hd 23 75 rfl rfl)
      refine .inl ⟨wanted_none rfl _, fun K hK => ?_⟩
      have HK := Lib.hid hK
      clear hd hFm hK
      go_simp
      exact HK.out _ _ rfl (Below.refl _ _)
    simp only [List.nil_append, List.cons_append]
    apply step_fix
    · intro a W Zs hS hFm hz hd
      have h76 := ev_get hFm.size (hd 24 76 rfl rfl)
      refine .inl ⟨wanted_none rfl _, fun K hK => ?_⟩
      have HK := Lib.hid hK
      clear hd hFm hK
      go_simp
      exact HK.out _ _ rfl (Below.refl _ _)
    simp only [List.nil_append, List.cons_append]
    apply step_fix
    · intro a W Zs hS hFm hz hd
      have h10 := ev_get hFm.size (hFm.old 10 (.pointer (some ⟨gb, 0, none⟩)) (by simp))
      have hq := (k_g.drew1.later hS).at
      unfold frBox at hq
      refine .inl ⟨wanted_at rfl rfl (hd 25 77 rfl rfl), fun K hK => ?_⟩
      have HK := Lib.hid hK
      clear hd hFm hK
      go_simp
      exact HK.out _ _ rfl (Below.refl _ _)
    simp only [List.nil_append, List.cons_append]
    apply step_fix
    · intro a W Zs hS hFm hz hd
      have h10 := ev_get hFm.size (hFm.old 10 (.pointer (some ⟨gb, 0, none⟩)) (by simp))
      have hq := (k_g.drew1.later hS).at
      unfold frBox at hq
      refine .inl ⟨wanted_at rfl rfl (hd 25 77 rfl rfl), fun K hK => ?_⟩
      have HK := Lib.hid hK
      clear hd hFm hK
      go_simp
      exact HK.out _ _ rfl (Below.refl _ _)
    simp only [List.nil_append, List.cons_append]
    apply step_fix
    · intro a W Zs hS hFm hz hd
      have h78 := ev_get hFm.size (hd 26 78 rfl rfl)
      have h79 := ev_get hFm.size (hd 27 79 rfl rfl)
      refine .inl ⟨wanted_at rfl rfl (hd 25 77 rfl rfl), fun K hK => ?_⟩
      have HK := Lib.hid hK
      clear hd hFm hK
      go_simp
      refine (HS.out _ (hrg.drew1.later hS)).mono ?_
      rintro e W' ⟨rfl, hb⟩
      exact HK.out _ _ rfl hb
    simp only [List.nil_append, List.cons_append]
    apply step_fix
    · intro a W Zs hS hFm hz hd
      have h77 := ev_get hFm.size (hd 25 77 rfl rfl)
      have h80 := ev_get hFm.size (hd 28 80 rfl rfl)
      refine .inl ⟨wanted_none rfl _, fun K hK => ?_⟩
      have HK := Lib.hid hK
      clear hd hFm hK
      go_simp
      exact HK.out _ _ rfl (Below.refl _ _)
    simp only [List.nil_append, List.cons_append]
    apply step_fix
    · intro a W Zs hS hFm hz hd
      have h81 := ev_get hFm.size (hd 29 81 rfl rfl)
      refine .inl ⟨wanted_none rfl _, fun K hK => ?_⟩
      have HK := Lib.hid hK
      clear hd hFm hK
      go_simp
      exact HK.out _ _ rfl (Below.refl _ _)
    simp only [List.nil_append, List.cons_append]
    intro a w6 Zs hS hFm hz hd
    have e8 := hd 30 8 rfl
    have e9 := hFm.old 9 (.pointer (some ⟨db, 0, none⟩)) (by simp)
    have e10 := hFm.old 10 (.pointer (some ⟨gb, 0, none⟩)) (by simp)
    have e11 := hFm.old 11 (.pointer (some ⟨gb + 1, 0, none⟩)) (by simp)
    have e13 := hFm.old 13 (.int .i64 2) (by simp)
    have hsz := hFm.size
    have hdf := hFm.defers
    clear hd hFm
    obtain ⟨t, df⟩ := a
    simp only at hsz hdf
    subst hdf
    obtain ⟨x, hx⟩ : ∃ x : Nat → Value, ∀ i, t.getD i undef = x i := ⟨fun i => t.getD i undef, fun _ => rfl⟩
    have h8 := (hx 8).symm.trans e8
    have h9 := (hx 9).symm.trans e9
    have h10 := (hx 10).symm.trans e10
    have h11 := (hx 11).symm.trans e11
    have h13 := (hx 13).symm.trans e13
    have ht' : t = #[x 0, x 1, x 2, x 3, x 4, x 5, x 6, x 7, x 8, x 9, x 10, x 11, x 12, x 13, x 14, x 15, x 16, x 17, x 18, x 19, x 20, x 21, x 22, x 23, x 24, x 25, x 26, x 27, x 28, x 29, x 30, x 31, x 32, x 33, x 34, x 35, x 36, x 37, x 38, x 39, x 40, x 41, x 42, x 43, x 44, x 45, x 46, x 47, x 48, x 49, x 50, x 51, x 52, x 53, x 54, x 55, x 56, x 57, x 58, x 59, x 60, x 61, x 62, x 63, x 64, x 65, x 66, x 67, x 68, x 69, x 70, x 71, x 72, x 73, x 74, x 75, x 76, x 77, x 78, x 79, x 80, x 81] := frame_lit t 82 hsz x hx
    clear hx hsz hz e8 e9 e10 e11 e13
    subst ht'
    dsimp only
    rw [h8, h9, h10, h11, h13]
    clear h8 h9 h10 h11 h13
    have hb2 := from_drew hS
    replace hB := hB.trans (hb2.mono hB.size)
    go_wp2
    go_ret
    exact ⟨rfl, hB⟩
  · have z0 : decide (0 < d.P.length) = true := decide_eq_true (by omega)
    obtain ⟨k, hk⟩ : ∃ k, d.P.length = k + 1 := ⟨d.P.length - 1, by omega⟩
    have H0 := Lib.hid hk
    clear h0 hk
    have y1 : IntKind.i64.wrap ((d.P.length : Int) - 1) = ((d.P.length - 1 : Nat) : Int) := by rw [wrap_in _ (by omega) (by omega)]; have := H0.out; omega
    have y2 : ((d.P.length - 1 : Nat) : Int) ≤ (dc : Int) := by omega
    go_upto_region 11 with fail
    have k_e2 : Blk (w3.setCell ⟨gb + 1, 5, none⟩ (.slice da (d.P.length - 1) dc)) (gb + 1) 24 #[.int .i64 d.N, .int .i64 d.Pi, .int .i64 d.E, .int .i64 d.G, .int .i64 d.F, .slice da (d.P.length - 1) dc] := k_e.set 5 _
    replace hD := hD.far (p := ⟨gb + 1, 5, none⟩) (by exact hdbg) (.slice da (d.P.length - 1) dc)
    replace k_g := k_g.far (p := ⟨gb + 1, 5, none⟩) (by show gb ≠ gb + 1; omega) (.slice da (d.P.length - 1) dc)
    replace hrg := hrg.far2 (gb + 1) 5 (.slice da (d.P.length - 1) dc) hgne
    replace hB := hB.setCell (p := ⟨gb + 1, 5, none⟩) (by show w.heap.size ≤ gb + 1; omega) (.slice da (d.P.length - 1) dc)
    generalize w3.setCell ⟨gb + 1, 5, none⟩ (.slice da (d.P.length - 1) dc) = w4 at *
    clear qE zE k_e
    have hll : (d.P.take (d.P.length - 1)).length = d.P.length - 1 := by simp
    have hoke : Cf.Ok ⟨d.N, d.Pi, d.E, d.G, d.F, d.P.take (d.P.length - 1)⟩ := ⟨hok.n6, hok.n12, hok.e0, hok.e1, hok.g0, hok.g1, hok.f0, hok.f1, hok.p0, hok.p1, by show (d.P.take (d.P.length - 1)).length ≤ 3; omega, fun a ha => hall a (List.mem_of_mem_take ha)⟩
    have hne : slotsI ⟨d.N, d.Pi, d.E, d.G, d.F, d.P.take (d.P.length - 1)⟩ ≠ slotsI d := by have := H0.out; show d.N + ((d.P.take (d.P.length - 1)).length : Int) ≠ _; omega
    obtain ⟨e, ea, ec, hoke, hN, hne, k_e⟩ : ∃ (e : Cf) (ea : Option Addr) (ec : Nat), e.Ok ∧ e.N = d.N ∧ slotsI e ≠ slotsI d ∧ Blk w4 (gb + 1) 24 (confBox e ea ec) := ⟨_, da, dc, hoke, rfl, hne, by unfold confBox; rw [hll]; exact k_e2⟩
    clear k_e2 hll
    have hR := other_refused d e g hok hokg HG.out.1 (by have := HG.out.2; omega) hN hne
    have hC : checkF e g = 2 := by
      rcases hR.2 with h | h
      · exact h
      · have := HG.out.2; have := hoke.n6; have he : slotsI e = e.N + e.P.length := rfl; omega
    have HR := Lib.hid (fun W => fRead_at e ea ec (textF g) W hoke (by omega) _ _ hR.1)
    have HC := Lib.hid (fun W (h : RowT W ga g.E) => fCheck_any e ea ec g ga gc W hoke h)
    have HS := Lib.hid (fun W (h : RowT W ga g.E) => rSame5_any g g ga ga gc gc W h h)
    have HL1 := Lib.hid (fun W => rslots_any d da dc W hok)
    have HL2 := Lib.hid (fun W => rslots_any e ea ec W hoke)
    rw [hC] at HC
    rw [decide_eq_true (rfl : g = g)] at HS
    have hgK := HG.out.1
    have d1 : (g.K == 3) = true := by simpa using hgK
    have d2 : decide (g.S < 6) = true := by simpa using h6
    have d3 : (slotsI d != slotsI e) = true := by simp; omega
    clear hR hC hgK HG hokg H0 hN hne hsl
    generalize textF g = l at *
    go_upto_region 11 with fail
    refine region_slots [some 45, some 46, some 47, some 48, some 49, some 44, some 50, some 51, some 12, none, some 13] [none, none, none, none, none, none, none, none, none, some 8, none] 82 [(9, .pointer (some ⟨db, 0, none⟩)), (10, .pointer (some ⟨gb, 0, none⟩)), (11, .pointer (some ⟨gb + 1, 0, none⟩))] (by kernel_rfl) (by kernel_rfl) ⟨by rfl, by rfl, by intro k v hk; simp only [List.mem_cons, List.not_mem_nil, or_false, Prod.mk.injEq] at hk; rcases hk with ⟨rfl, rfl⟩ | ⟨rfl, rfl⟩ | ⟨rfl, rfl⟩ <;> rfl⟩ ?_
    apply step_fix
    · intro a W Zs hS hFm hz hd
      have h11 := ev_get hFm.size (hFm.old 11 (.pointer (some ⟨gb + 1, 0, none⟩)) (by simp))
      have hq := (k_e.drew1.later hS).at
      unfold confBox at hq
      refine .inl ⟨wanted_none rfl _, fun K hK => ?_⟩
      have HK := Lib.hid hK
      clear hd hFm hK
      go_simp
      exact HK.out _ _ rfl (Below.refl _ _)
    simp only [List.nil_append, List.cons_append]
    apply step_fix
    · intro a W Zs hS hFm hz hd
      have h9 := ev_get hFm.size (hFm.old 9 (.pointer (some ⟨db, 0, none⟩)) (by simp))
      have hq := (hD.drew1.later hS).at
      unfold confBox at hq
      refine .inl ⟨wanted_none rfl _, fun K hK => ?_⟩
      have HK := Lib.hid hK
      clear hd hFm hK
      go_simp
      exact HK.out _ _ rfl (Below.refl _ _)
    simp only [List.nil_append, List.cons_append]
    apply step_fix
    · intro a W Zs hS hFm hz hd
      have h10 := ev_get hFm.size (hFm.old 10 (.pointer (some ⟨gb, 0, none⟩)) (by simp))
      have hq := (k_g.drew1.later hS).at
      unfold frBox at hq
      refine .inl ⟨wanted_none rfl _, fun K hK => ?_⟩
      have HK := Lib.hid hK
      clear hd hFm hK
      go_simp
      exact HK.out _ _ rfl (Below.refl _ _)
    simp only [List.nil_append, List.cons_append]
    apply step_fix
    · intro a W Zs hS hFm hz hd
      have h46 := ev_get hFm.size (hd 1 46 rfl rfl)
      have h47 := ev_get hFm.size (hd 2 47 rfl rfl)
      refine .inl ⟨wanted_none rfl _, fun K hK => ?_⟩
      have HK := Lib.hid hK
      clear hd hFm hK
      go_simp
      refine (HT.out _ (hrg.drew1.later hS)).mono ?_
      rintro e W' ⟨rfl, hb⟩
      exact HK.out _ _ rfl hb
    simp only [List.nil_append, List.cons_append]
    refine step_of (rdF _ (zeroF) (2)) (rdF_good _ _ _) ?_ ?_
    · intro a W Zs hS hFm hz hd
      have h45 := ev_get hFm.size (hd 0 45 rfl rfl)
      have h48 := ev_get hFm.size (hd 3 48 rfl rfl)
      refine .inl ⟨wanted_none rfl _, fun K hK => ?_⟩
      have HK := Lib.hid hK
      clear hd hFm hK
      go_simp
      refine (HR.out _).mono ?_
      rintro e W' ⟨ra, rc, rfl, hr, hfr, hb⟩
      exact HK.out _ _ ⟨ra, rc, rfl, hr, hr.foot hfr⟩ hb
    simp only [List.nil_append, List.cons_append]
    refine step_of (rdF _ (zeroF) (2)) (rdF_good _ _ _) ?_ ?_
    · intro a W Zs hS hFm hz hd
      obtain ⟨a49, c49, e49, r49, f49⟩ := hd 4 49 rfl rfl
      have h49 := ev_get hFm.size e49
      refine .inl ⟨wanted_none rfl _, fun K hK => ?_⟩
      have HK := Lib.hid hK
      clear hd hFm hK
      go_simp
      exact HK.out _ _ ⟨a49, c49, rfl, r49, ft_mono f49 (foot_dep 4 rfl rfl rfl)⟩ (Below.refl _ _)
    simp only [List.nil_append, List.cons_append]
    refine step_of (frF _ (zeroF)) (frF_good _ _) ?_ ?_
    · intro a W Zs hS hFm hz hd
      obtain ⟨a44, c44, e44, r44, f44⟩ := hd 5 44 rfl rfl
      have h44 := ev_get hFm.size e44
      refine .inl ⟨wanted_none rfl _, fun K hK => ?_⟩
      have HK := Lib.hid hK
      clear hd hFm hK
      go_simp
      exact HK.out _ _ ⟨a44, c44, rfl, r44, ft_mono f44 (foot_dep 5 rfl rfl rfl)⟩ (Below.refl _ _)
    simp only [List.nil_append, List.cons_append]
    apply step_fix
    · intro a W Zs hS hFm hz hd
      obtain ⟨a44, c44, e44, r44, f44⟩ := hd 5 44 rfl rfl
      have h44 := ev_get hFm.size e44
      refine .inl ⟨wanted_none rfl _, fun K hK => ?_⟩
      have HK := Lib.hid hK
      clear hd hFm hK
      go_simp
      exact HK.out _ _ rfl (Below.refl _ _)
    simp only [List.nil_append, List.cons_append]
    refine step_of (boxF _ 29 6) (boxF_good _ _ _) ?_ ?_
    · intro a W Zs hS hFm hz hd
      refine .inl ⟨wanted_none rfl _, fun K hK => ?_⟩
      have HK := Lib.hid hK
      clear hd hFm hK
      go_simp
      exact HK.out _ _ ⟨_, _, rfl, rfl, Blk.new _ _ _, .inl ⟨Nat.le_refl _, by simp⟩⟩ (alloc_below _ _)
    simp only [List.nil_append, List.cons_append]
    refine step_of (frBoxF _ (zeroF)) (frBoxF_good _ _) ?_ ?_
    · intro a W Zs hS hFm hz hd hap
      obtain ⟨b12, cs12, e12, n12, q12, z12⟩ := hd 8 12 rfl rfl
      have h12 := ev_get hFm.size e12
      obtain ⟨a50, c50, e50, r50, f50⟩ := hd 6 50 rfl rfl
      have h50 := ev_get hFm.size e50
      have hB0 := (hz 8 _ rfl z12).1
      obtain ⟨u0, u1, u2, u3, u4, u5, rfl⟩ := arr6 n12
      have hq := q12.at
      have hfz := q12.frozen
      refine ⟨wanted_none rfl _, b12, z12, fun K hK => ?_⟩
      have HK := Lib.hid hK
      clear hd hFm hK
      go_simp
      exact HK.out undef _ (Only.fill6 _ _ _ _ _ _ _ _) (fun d hd' => by injection hd' with hd'; subst hd'; exact ⟨⟨b12, a50, c50, e12, q12.fill6 _ _ _ _ _ _, r50.agree f50 (store_apart (Only.fill6 W b12 _ _ _ _ _ _) hB0 z12 hap 6 rfl (by decide)), .inr (.inl rfl), ft_mono f50 (foot_depS 6 rfl rfl rfl)⟩, ⟨b12, _, e12, rfl, q12.fill6 _ _ _ _ _ _, z12⟩⟩)
    simp only [List.nil_append, List.cons_append]
    apply step_fix
    · intro a W Zs hS hFm hz hd
      have h51 := ev_get hFm.size (hd 7 51 rfl rfl)
      refine .inl ⟨wanted_none rfl _, fun K hK => ?_⟩
      have HK := Lib.hid hK
      clear hd hFm hK
      go_simp
      exact HK.out _ _ rfl (Below.refl _ _)
    simp only [List.nil_append, List.cons_append]
    intro a w5 Zs hS hFm hz hd
    have e13 := hd 10 13 rfl
    have e9 := hFm.old 9 (.pointer (some ⟨db, 0, none⟩)) (by simp)
    have e10 := hFm.old 10 (.pointer (some ⟨gb, 0, none⟩)) (by simp)
    have e11 := hFm.old 11 (.pointer (some ⟨gb + 1, 0, none⟩)) (by simp)
    have hsz := hFm.size
    have hdf := hFm.defers
    clear hd hFm
    obtain ⟨t, df⟩ := a
    simp only at hsz hdf
    subst hdf
    obtain ⟨x, hx⟩ : ∃ x : Nat → Value, ∀ i, t.getD i undef = x i := ⟨fun i => t.getD i undef, fun _ => rfl⟩
    have h13 := (hx 13).symm.trans e13
    have h9 := (hx 9).symm.trans e9
    have h10 := (hx 10).symm.trans e10
    have h11 := (hx 11).symm.trans e11
    have ht' : t = #[x 0, x 1, x 2, x 3, x 4, x 5, x 6, x 7, x 8, x 9, x 10, x 11, x 12, x 13, x 14, x 15, x 16, x 17, x 18, x 19, x 20, x 21, x 22, x 23, x 24, x 25, x 26, x 27, x 28, x 29, x 30, x 31, x 32, x 33, x 34, x 35, x 36, x 37, x 38, x 39, x 40, x 41, x 42, x 43, x 44, x 45, x 46, x 47, x 48, x 49, x 50, x 51, x 52, x 53, x 54, x 55, x 56, x 57, x 58, x 59, x 60, x 61, x 62, x 63, x 64, x 65, x 66, x 67, x 68, x 69, x 70, x 71, x 72, x 73, x 74, x 75, x 76, x 77, x 78, x 79, x 80, x 81] := frame_lit t 82 hsz x hx
    clear hx hsz hz e13 e9 e10 e11
    subst ht'
    dsimp only
    rw [h13, h9, h10, h11]
    clear h13 h9 h10 h11
    have hb2 := from_drew hS
    replace hB := hB.trans (hb2.mono hB.size)
    replace hD := hD.later hb2
    replace k_g := k_g.later hb2
    replace k_e := k_e.later hb2
    replace hrg := hrg.later hb2
    clear hS hb2 HT HR
    go_upto_region 12 with fail
    refine region_slots [some 52, some 53, some 54, some 55, some 56, some 57, some 58, some 59, some 60, some 61, some 62, some 63, some 64, some 65, some 66, some 67, some 68, some 69, some 70, some 71, some 72, some 73, some 74, some 75, some 76, some 77, some 78, some 79, some 80, some 81, some 8] [none, none, none, none, none, none, none, none, none, none, none, none, none, none, none, none, none, none, none, none, none, none, none, none, none, none, none, none, none, none, none] 82 [(9, .pointer (some ⟨db, 0, none⟩)), (10, .pointer (some ⟨gb, 0, none⟩)), (11, .pointer (some ⟨gb + 1, 0, none⟩)), (13, .int .i64 2)] (by kernel_rfl) (by kernel_rfl) ⟨by rfl, by rfl, by intro k v hk; simp only [List.mem_cons, List.not_mem_nil, or_false, Prod.mk.injEq] at hk; rcases hk with ⟨rfl, rfl⟩ | ⟨rfl, rfl⟩ | ⟨rfl, rfl⟩ | ⟨rfl, rfl⟩ <;> rfl⟩ ?_
    apply step_fix
    · intro a W Zs hS hFm hz hd
      have h10 := ev_get hFm.size (hFm.old 10 (.pointer (some ⟨gb, 0, none⟩)) (by simp))
      refine .inl ⟨wanted_none rfl _, fun K hK => ?_⟩
      have HK := Lib.hid hK
      clear hd hFm hK
      go_simp
      exact HK.out _ _ rfl (Below.refl _ _)
    simp only [List.nil_append, List.cons_append]
    apply step_fix
    · intro a W Zs hS hFm hz hd
      have h52 := ev_get hFm.size (hd 0 52 rfl rfl)
      have hq := (k_g.drew1.later hS).at
      unfold frBox at hq
      refine .inl ⟨wanted_none rfl _, fun K hK => ?_⟩
      have HK := Lib.hid hK
      clear hd hFm hK
      go_simp
      exact HK.out _ _ rfl (Below.refl _ _)
    simp only [List.nil_append, List.cons_append]
    apply step_fix
    · intro a W Zs hS hFm hz hd
      have h53 := ev_get hFm.size (hd 1 53 rfl rfl)
      refine .inl ⟨wanted_none rfl _, fun K hK => ?_⟩
      have HK := Lib.hid hK
      clear hd hFm hK
      go_simp
      exact HK.out _ _ rfl (Below.refl _ _)
    simp only [List.nil_append, List.cons_append]
    apply step_fix
    · intro a W Zs hS hFm hz hd
      have h54 := ev_get hFm.size (hd 2 54 rfl rfl)
      refine .inl ⟨wanted_none rfl _, fun K hK => ?_⟩
      have HK := Lib.hid hK
      clear hd hFm hK
      go_simp
      exact HK.out _ _ rfl (Below.refl _ _)
    simp only [List.nil_append, List.cons_append]
    apply step_fix
    · intro a W Zs hS hFm hz hd
      have h10 := ev_get hFm.size (hFm.old 10 (.pointer (some ⟨gb, 0, none⟩)) (by simp))
      refine .inl ⟨wanted_at rfl rfl (hd 3 55 rfl rfl), fun K hK => ?_⟩
      have HK := Lib.hid hK
      clear hd hFm hK
      go_simp
      exact HK.out _ _ rfl (Below.refl _ _)
    simp only [List.nil_append, List.cons_append]
    apply step_fix
    · intro a W Zs hS hFm hz hd
      have h56 := ev_get hFm.size (hd 4 56 rfl rfl)
      have hq := (k_g.drew1.later hS).at
      unfold frBox at hq
      refine .inl ⟨wanted_at rfl rfl (hd 3 55 rfl rfl), fun K hK => ?_⟩
      have HK := Lib.hid hK
      clear hd hFm hK
      go_simp
      exact HK.out _ _ rfl (Below.refl _ _)
    simp only [List.nil_append, List.cons_append]
    apply step_fix
    · intro a W Zs hS hFm hz hd
      have h57 := ev_get hFm.size (hd 5 57 rfl rfl)
      refine .inl ⟨wanted_at rfl rfl (hd 3 55 rfl rfl), fun K hK => ?_⟩
      have HK := Lib.hid hK
      clear hd hFm hK
      go_simp
      exact HK.out _ _ rfl (Below.refl _ _)
    simp only [List.nil_append, List.cons_append]
    apply step_fix
    · intro a W Zs hS hFm hz hd
      have h55 := ev_get hFm.size (hd 3 55 rfl rfl)
      have h58 := ev_get hFm.size (hd 6 58 rfl rfl)
      refine .inl ⟨wanted_none rfl _, fun K hK => ?_⟩
      have HK := Lib.hid hK
      clear hd hFm hK
      go_simp
      exact HK.out _ _ rfl (Below.refl _ _)
    simp only [List.nil_append, List.cons_append]
    apply step_fix
    · intro a W Zs hS hFm hz hd
      have h59 := ev_get hFm.size (hd 7 59 rfl rfl)
      refine .inl ⟨wanted_none rfl _, fun K hK => ?_⟩
      have HK := Lib.hid hK
      clear hd hFm hK
      go_simp
      exact HK.out _ _ rfl (Below.refl _ _)
    simp only [List.nil_append, List.cons_append]
    apply step_fix
    · intro a W Zs hS hFm hz hd
      have h13 := ev_get hFm.size (hFm.old 13 (.int .i64 2) (by simp))
      refine .inl ⟨wanted_at rfl rfl (hd 8 60 rfl rfl), fun K hK => ?_⟩
      have HK := Lib.hid hK
      clear hd hFm hK
      go_simp
      exact HK.out _ _ rfl (Below.refl _ _)
    simp only [List.nil_append, List.cons_append]
    apply step_fix
    · intro a W Zs hS hFm hz hd
      have h61 := ev_get hFm.size (hd 9 61 rfl rfl)
      refine .inl ⟨wanted_at rfl rfl (hd 8 60 rfl rfl), fun K hK => ?_⟩
      have HK := Lib.hid hK
      clear hd hFm hK
      go_simp
      exact HK.out _ _ rfl (Below.refl _ _)
    simp only [List.nil_append, List.cons_append]
    apply step_fix
    · intro a W Zs hS hFm hz hd
      have h60 := ev_get hFm.size (hd 8 60 rfl rfl)
      have h62 := ev_get hFm.size (hd 10 62 rfl rfl)
      refine .inl ⟨wanted_none rfl _, fun K hK => ?_⟩
      have HK := Lib.hid hK
      clear hd hFm hK
      go_simp
      exact HK.out _ _ rfl (Below.refl _ _)
    simp only [List.nil_append, List.cons_append]
    apply step_fix
    · intro a W Zs hS hFm hz hd
      have h63 := ev_get hFm.size (hd 11 63 rfl rfl)
      refine .inl ⟨wanted_none rfl _, fun K hK => ?_⟩
      have HK := Lib.hid hK
      clear hd hFm hK
      go_simp
      exact HK.out _ _ rfl (Below.refl _ _)
    simp only [List.nil_append, List.cons_append]
    apply step_fix
    · intro a W Zs hS hFm hz hd
      have h11 := ev_get hFm.size (hFm.old 11 (.pointer (some ⟨gb + 1, 0, none⟩)) (by simp))
      have hq := (k_e.drew1.later hS).at
      unfold confBox at hq
      refine .inl ⟨wanted_at rfl rfl (hd 12 64 rfl rfl), fun K hK => ?_⟩
      have HK := Lib.hid hK
      clear hd hFm hK
      go_simp
      exact HK.out _ _ rfl (Below.refl _ _)
    simp only [List.nil_append, List.cons_append]
    apply step_fix
    · intro a W Zs hS hFm hz hd
      have h10 := ev_get hFm.size (hFm.old 10 (.pointer (some ⟨gb, 0, none⟩)) (by simp))
      have hq := (k_g.drew1.later hS).at
      unfold frBox at hq
      refine .inl ⟨wanted_at rfl rfl (hd 12 64 rfl rfl), fun K hK => ?_⟩
      have HK := Lib.hid hK
      clear hd hFm hK
      go_simp
      exact HK.out _ _ rfl (Below.refl _ _)
    simp only [List.nil_append, List.cons_append]
    apply step_fix
    · intro a W Zs hS hFm hz hd
      have h65 := ev_get hFm.size (hd 13 65 rfl rfl)
      have h66 := ev_get hFm.size (hd 14 66 rfl rfl)
      refine .inl ⟨wanted_at rfl rfl (hd 12 64 rfl rfl), fun K hK => ?_⟩
      have HK := Lib.hid hK
      clear hd hFm hK
      go_simp
      refine (HC.out _ (hrg.drew1.later hS)).mono ?_
      rintro e W' ⟨rfl, hb⟩
      exact HK.out _ _ rfl hb
    simp only [List.nil_append, List.cons_append]
    apply step_fix
    · intro a W Zs hS hFm hz hd
      have h67 := ev_get hFm.size (hd 15 67 rfl rfl)
      refine .inl ⟨wanted_at rfl rfl (hd 12 64 rfl rfl), fun K hK => ?_⟩
      have HK := Lib.hid hK
      clear hd hFm hK
      go_simp
      exact HK.out _ _ rfl (Below.refl _ _)
    simp only [List.nil_append, List.cons_append]
    apply step_fix
    · intro a W Zs hS hFm hz hd
      have h64 := ev_get hFm.size (hd 12 64 rfl rfl)
      have h68 := ev_get hFm.size (hd 16 68 rfl rfl)
      refine .inl ⟨wanted_none rfl _, fun K hK => ?_⟩
      have HK := Lib.hid hK
      clear hd hFm hK
      go_simp
      exact HK.out _ _ rfl (Below.refl _ _)
    simp only [List.nil_append, List.cons_append]
    apply step_fix
    · intro a W Zs hS hFm hz hd
      have h69 := ev_get hFm.size (hd 17 69 rfl rfl)
      refine .inl ⟨wanted_none rfl _, fun K hK => ?_⟩
      have HK := Lib.hid hK
      clear hd hFm hK
      go_simp
      exact HK.out _ _ rfl (Below.refl _ _)
    simp only [List.nil_append, List.cons_append]
    apply step_fix
    · intro a W Zs hS hFm hz hd
      have h9 := ev_get hFm.size (hFm.old 9 (.pointer (some ⟨db, 0, none⟩)) (by simp))
      have hq := (hD.drew1.later hS).at
      unfold confBox at hq
      refine .inl ⟨wanted_at rfl rfl (hd 18 70 rfl rfl), fun K hK => ?_⟩
      have HK := Lib.hid hK
      clear hd hFm hK
      go_simp
      exact HK.out _ _ rfl (Below.refl _ _)
    simp only [List.nil_append, List.cons_append]
    apply step_fix
    · intro a W Zs hS hFm hz hd
      have h71 := ev_get hFm.size (hd 19 71 rfl rfl)
      refine .inl ⟨wanted_at rfl rfl (hd 18 70 rfl rfl), fun K hK => ?_⟩
      have HK := Lib.hid hK
      clear hd hFm hK
      go_simp
      refine (HL1.out _).mono ?_
      rintro e W' ⟨rfl, hb⟩
      exact HK.out _ _ rfl hb
    simp only [List.nil_append, List.cons_append]
    apply step_fix
    · intro a W Zs hS hFm hz hd
      have h11 := ev_get hFm.size (hFm.old 11 (.pointer (some ⟨gb + 1, 0, none⟩)) (by simp))
      have hq := (k_e.drew1.later hS).at
      unfold confBox at hq
      refine .inl ⟨wanted_at rfl rfl (hd 18 70 rfl rfl), fun K hK => ?_⟩
      have HK := Lib.hid hK
      clear hd hFm hK
      go_simp
      exact HK.out _ _ rfl (Below.refl _ _)
    simp only [List.nil_append, List.cons_append]
    apply step_fix
    · intro a W Zs hS hFm hz hd
      have h73 := ev_get hFm.size (hd 21 73 rfl rfl)
      refine .inl ⟨wanted_at rfl rfl (hd 18 70 rfl rfl), fun K hK => ?_⟩
      have HK := Lib.hid hK
      clear hd hFm hK
      go_simp
      refine (HL2.out _).mono ?_
      rintro e W' ⟨rfl, hb⟩
      exact HK.out _ _ rfl hb
    simp only [List.nil_append, List.cons_append]
    apply step_fix
    · intro a W Zs hS hFm hz hd
      have h72 := ev_get hFm.size (hd 20 72 rfl rfl)
      have h74 := ev_get hFm.size (hd 22 74 rfl rfl)
      refine .inl ⟨wanted_at rfl rfl (hd 18 70 rfl rfl), fun K hK => ?_⟩
      have HK := Lib.hid hK
      clear hd hFm hK
      go_simp
      exact HK.out _ _ rfl (Below.refl _ _)
    simp only [List.nil_append, List.cons_append]
    apply step_fix
    · intro a W Zs hS hFm hz hd
      have h70 := ev_get hFm.size (hd 18 70 rfl rfl)
      have h75 := ev_get hFm.size (hd 23 75 rfl rfl)
      refine .inl ⟨wanted_none rfl _, fun K hK => ?_⟩
      have HK := Lib.hid hK
      clear hd hFm hK
      go_simp
      exact HK.out _ _ rfl (Below.refl _ _)
    simp only [List.nil_append, List.cons_append]
    apply step_fix
    · intro a W Zs hS hFm hz hd
      have h76 := ev_get hFm.size (hd 24 76 rfl rfl)
      refine .inl ⟨wanted_none rfl _, fun K hK => ?_⟩
      have HK := Lib.hid hK
      clear hd hFm hK
      go_simp
      exact HK.out _ _ rfl (Below.refl _ _)
    simp only [List.nil_append, List.cons_append]
    apply step_fix
    · intro a W Zs hS hFm hz hd
      have h10 := ev_get hFm.size (hFm.old 10 (.pointer (some ⟨gb, 0, none⟩)) (by simp))
      have hq := (k_g.drew1.later hS).at
      unfold frBox at hq
      refine .inl ⟨wanted_at rfl rfl (hd 25 77 rfl rfl), fun K hK => ?_⟩
      have HK := Lib.hid hK
      clear hd hFm hK
      go_simp
      exact HK.out _ _ rfl (Below.refl _ _)
    simp only [List.nil_append, List.cons_append]
    apply step_fix
    · intro a W Zs hS hFm hz hd
      have h10 := ev_get hFm.size (hFm.old 10 (.pointer (some ⟨gb, 0, none⟩)) (by simp))
      have hq := (k_g.drew1.later hS).at
      unfold frBox at hq
      refine .inl ⟨wanted_at rfl rfl (hd 25 77 rfl rfl), fun K hK => ?_⟩
      have HK := Lib.hid hK
      clear hd hFm hK
      go_simp
      exact HK.out _ _ rfl (Below.refl _ _)
    simp only [List.nil_append, List.cons_append]
    apply step_fix
    · intro a W Zs hS hFm hz hd
      have h78 := ev_get hFm.size (hd 26 78 rfl rfl)
      have h79 := ev_get hFm.size (hd 27 79 rfl rfl)
      refine .inl ⟨wanted_at rfl rfl (hd 25 77 rfl rfl), fun K hK => ?_⟩
      have HK := Lib.hid hK
      clear hd hFm hK
      go_simp
      refine (HS.out _ (hrg.drew1.later hS)).mono ?_
      rintro e W' ⟨rfl, hb⟩
      exact HK.out _ _ rfl hb
    simp only [List.nil_append, List.cons_append]
    apply step_fix
    · intro a W Zs hS hFm hz hd
      have h77 := ev_get hFm.size (hd 25 77 rfl rfl)
      have h80 := ev_get hFm.size (hd 28 80 rfl rfl)
      refine .inl ⟨wanted_none rfl _, fun K hK => ?_⟩
      have HK := Lib.hid hK
      clear hd hFm hK
      go_simp
      exact HK.out _ _ rfl (Below.refl _ _)
    simp only [List.nil_append, List.cons_append]
    apply step_fix
    · intro a W Zs hS hFm hz hd
      have h81 := ev_get hFm.size (hd 29 81 rfl rfl)
      refine .inl ⟨wanted_none rfl _, fun K hK => ?_⟩
      have HK := Lib.hid hK
      clear hd hFm hK
      go_simp
      exact HK.out _ _ rfl (Below.refl _ _)
    simp only [List.nil_append, List.cons_append]
    intro a w6 Zs hS hFm hz hd
    have e8 := hd 30 8 rfl
    have e9 := hFm.old 9 (.pointer (some ⟨db, 0, none⟩)) (by simp)
    have e10 := hFm.old 10 (.pointer (some ⟨gb, 0, none⟩)) (by simp)
    have e11 := hFm.old 11 (.pointer (some ⟨gb + 1, 0, none⟩)) (by simp)
    have e13 := hFm.old 13 (.int .i64 2) (by simp)
    have hsz := hFm.size
    have hdf := hFm.defers
    clear hd hFm
    obtain ⟨t, df⟩ := a
    simp only at hsz hdf
    subst hdf
    obtain ⟨x, hx⟩ : ∃ x : Nat → Value, ∀ i, t.getD i undef = x i := ⟨fun i => t.getD i undef, fun _ => rfl⟩
    have h8 := (hx 8).symm.trans e8
    have h9 := (hx 9).symm.trans e9
    have h10 := (hx 10).symm.trans e10
    have h11 := (hx 11).symm.trans e11
    have h13 := (hx 13).symm.trans e13
    have ht' : t = #[x 0, x 1, x 2, x 3, x 4, x 5, x 6, x 7, x 8, x 9, x 10, x 11, x 12, x 13, x 14, x 15, x 16, x 17, x 18, x 19, x 20, x 21, x 22, x 23, x 24, x 25, x 26, x 27, x 28, x 29, x 30, x 31, x 32, x 33, x 34, x 35, x 36, x 37, x 38, x 39, x 40, x 41, x 42, x 43, x 44, x 45, x 46, x 47, x 48, x 49, x 50, x 51, x 52, x 53, x 54, x 55, x 56, x 57, x 58, x 59, x 60, x 61, x 62, x 63, x 64, x 65, x 66, x 67, x 68, x 69, x 70, x 71, x 72, x 73, x 74, x 75, x 76, x 77, x 78, x 79, x 80, x 81] := frame_lit t 82 hsz x hx
    clear hx hsz hz e8 e9 e10 e11 e13
    subst ht'
    dsimp only
    rw [h8, h9, h10, h11, h13]
    clear h8 h9 h10 h11 h13
    have hb2 := from_drew hS
    replace hB := hB.trans (hb2.mono hB.size)
    go_wp2
    go_ret
    exact ⟨rfl, hB⟩

end Go.Proofs.Ytafcjdcmbklfkaa

/-
  Contracts of package arb, first part: the frame that a text is, if it is one of that round and slot; the reference's.
-/
import Derived.Test.YtkflijbhlibadabDoorK9
import Derived.Test.YtkflijbhlibadabDoorK8
namespace Go.Proofs.YtkflijbhlibadabDoor
open Go.RowKit Plait
set_option maxRecDepth 100000
set_option linter.unusedVariables false
set_option linter.unusedSimpArgs false

/-- What a call answers that takes a frame of a text, or none. -/
def RightRet (p : Fr × Bool) (w : World) (e : Ending) (w' : World) : Prop :=
  ∃ (a : Option Addr) (cap : Nat), e = .returned (.tuple #[.agg #[.int .i64 p.1.K, .int .i64 p.1.R, .int .i64 p.1.S, .int .i64 p.1.P.K, .int .i64 p.1.P.V, .slice a p.1.E.length cap], .bool p.2]) ∧ RowT w' a p.1.E ∧ (∀ x, a = some x → w.heap.size ≤ x.block) ∧ Below w.heap.size w w'

/-- A frame laid into its place keeps the others' rows. -/
theorem right_far {w wr : World} {g : Nat} {f : Fr} {av : Option Addr} {cv : Nat} (hr : RowT wr av f.E) (hn : f.E = [] ∨ ∀ x, av = some x → x.block ≠ g) (u0 u1 u2 u3 u4 u5 : Value) :
    RowT ((((((wr.setCell ⟨g, 0, none⟩ u0).setCell ⟨g, 1, none⟩ u1).setCell ⟨g, 2, none⟩ u2).setCell ⟨g, 3, none⟩ u3).setCell ⟨g, 4, none⟩ u4).setCell ⟨g, 5, none⟩ u5) av f.E :=
  (((((hr.far2 g 0 u0 hn).far2 g 1 u1 hn).far2 g 2 u2 hn).far2 g 3 u3 hn).far2 g 4 u4 hn).far2 g 5 u5 hn
theorem below_set6 {B g : Nat} {w wr : World} (hB : Below B w wr) (hg : B ≤ g) (u0 u1 u2 u3 u4 u5 : Value) :
    Below B w ((((((wr.setCell ⟨g, 0, none⟩ u0).setCell ⟨g, 1, none⟩ u1).setCell ⟨g, 2, none⟩ u2).setCell ⟨g, 3, none⟩ u3).setCell ⟨g, 4, none⟩ u4).setCell ⟨g, 5, none⟩ u5) :=
  (((((hB.setCell (p := ⟨g, 0, none⟩) hg u0).setCell (p := ⟨g, 1, none⟩) hg u1).setCell (p := ⟨g, 2, none⟩) hg u2).setCell (p := ⟨g, 3, none⟩) hg u3).setCell (p := ⟨g, 4, none⟩) hg u4).setCell (p := ⟨g, 5, none⟩) hg u5
theorem blk_set6 {W : World} {g : Nat} {old : Array Value} (h : Blk W g 29 old) (h6 : old.size = 6) (u0 u1 u2 u3 u4 u5 : Value) :
    Blk ((((((W.setCell ⟨g, 0, none⟩ u0).setCell ⟨g, 1, none⟩ u1).setCell ⟨g, 2, none⟩ u2).setCell ⟨g, 3, none⟩ u3).setCell ⟨g, 4, none⟩ u4).setCell ⟨g, 5, none⟩ u5) g 29 #[u0, u1, u2, u3, u4, u5] := by
  obtain ⟨v0, v1, v2, v3, v4, v5, rfl⟩ : ∃ v0 v1 v2 v3 v4 v5, old = #[v0, v1, v2, v3, v4, v5] := by
    rcases old with ⟨l⟩
    match l, h6 with
    | [a0, a1, a2, a3, a4, a5], _ => exact ⟨a0, a1, a2, a3, a4, a5, rfl⟩
  have k0 : Blk (W.setCell ⟨g, 0, none⟩ u0) g 29 #[u0, v1, v2, v3, v4, v5] := h.set 0 u0
  have k1 : Blk ((W.setCell ⟨g, 0, none⟩ u0).setCell ⟨g, 1, none⟩ u1) g 29 #[u0, u1, v2, v3, v4, v5] := k0.set 1 u1
  have k2 : Blk (((W.setCell ⟨g, 0, none⟩ u0).setCell ⟨g, 1, none⟩ u1).setCell ⟨g, 2, none⟩ u2) g 29 #[u0, u1, u2, v3, v4, v5] := k1.set 2 u2
  have k3 : Blk ((((W.setCell ⟨g, 0, none⟩ u0).setCell ⟨g, 1, none⟩ u1).setCell ⟨g, 2, none⟩ u2).setCell ⟨g, 3, none⟩ u3) g 29 #[u0, u1, u2, u3, v4, v5] := k2.set 3 u3
  have k4 : Blk (((((W.setCell ⟨g, 0, none⟩ u0).setCell ⟨g, 1, none⟩ u1).setCell ⟨g, 2, none⟩ u2).setCell ⟨g, 3, none⟩ u3).setCell ⟨g, 4, none⟩ u4) g 29 #[u0, u1, u2, u3, u4, v5] := k3.set 4 u4
  exact k4.set 5 u5


/-- The last step: the frame is laid into the result's place. -/
theorem aright_end (f : Fr) (b : Bool) (w wr : World) (av : Option Addr) (cv : Nat) (old : Array Value) (h6 : old.size = 6) (hB : Below w.heap.size w wr) (k2 : Blk wr (w.heap.size + 1) 29 old) (hr : RowT wr av f.E) (hn : ∀ x, av = some x → w.heap.size + 1 < x.block) {p : Fr × Bool} (hp : p = (f, b)) {a : Act}
    (h4 : a.tmps[8]? = some (.pointer (some ⟨w.heap.size + 1, 0, none⟩)) := by rfl) (h5 : a.tmps[9]? = some (.bool b) := by rfl) (hd : a.defers = [] := by rfl) :
    bodyPost Tryd.prog Tryd.f18 (RightRet p w) Exit.ret a
      ((((((wr.setCell ⟨w.heap.size + 1, 0, none⟩ (.int .i64 f.K)).setCell ⟨w.heap.size + 1, 1, none⟩ (.int .i64 f.R)).setCell ⟨w.heap.size + 1, 2, none⟩ (.int .i64 f.S)).setCell
        ⟨w.heap.size + 1, 3, none⟩ (.int .i64 f.P.K)).setCell ⟨w.heap.size + 1, 4, none⟩ (.int .i64 f.P.V)).setCell ⟨w.heap.size + 1, 5, none⟩ (.slice av f.E.length cv)) := by
  subst hp
  have kk := blk_set6 k2 h6 (.int .i64 f.K) (.int .i64 f.R) (.int .i64 f.S) (.int .i64 f.P.K) (.int .i64 f.P.V) (.slice av f.E.length cv)
  have hb2 := below_set6 (g := w.heap.size + 1) hB (by omega) (.int .i64 f.K) (.int .i64 f.R) (.int .i64 f.S) (.int .i64 f.P.K) (.int .i64 f.P.V) (.slice av f.E.length cv)
  have ho := right_far (w := w) (cv := cv) hr (.inr fun x hx => by have := hn x hx; omega) (g := w.heap.size + 1) (.int .i64 f.K) (.int .i64 f.R) (.int .i64 f.S) (.int .i64 f.P.K) (.int .i64 f.P.V) (.slice av f.E.length cv)
  generalize (((((wr.setCell _ _).setCell _ _).setCell _ _).setCell _ _).setCell _ _).setCell _ _ = W at *
  have q := kk.at
  simp at q
  refine bodyPost_ret (v := .tuple #[.agg #[.int .i64 f.K, .int .i64 f.R, .int .i64 f.S, .int .i64 f.P.K, .int .i64 f.P.V, .slice av f.E.length cv], .bool b]) (by simp [results, Tryd.results18, go_sem, h4, h5, q]) hd ⟨av, cv, rfl, ho, ?_, hb2⟩
  intro x hx
  have := hn x hx
  omega

/-- The last step: the frame is laid into the result's place. -/
theorem rright_end (f : Fr) (b : Bool) (w wr : World) (av : Option Addr) (cv : Nat) (old : Array Value) (h6 : old.size = 6) (hB : Below w.heap.size w wr) (k2 : Blk wr (w.heap.size + 1) 29 old) (hr : RowT wr av f.E) (hn : ∀ x, av = some x → w.heap.size + 1 < x.block) {p : Fr × Bool} (hp : p = (f, b)) {a : Act}
    (h4 : a.tmps[8]? = some (.pointer (some ⟨w.heap.size + 1, 0, none⟩)) := by rfl) (h5 : a.tmps[9]? = some (.bool b) := by rfl) (hd : a.defers = [] := by rfl) :
    bodyPost Tryd.prog Tryd.f19 (RightRet p w) Exit.ret a
      ((((((wr.setCell ⟨w.heap.size + 1, 0, none⟩ (.int .i64 f.K)).setCell ⟨w.heap.size + 1, 1, none⟩ (.int .i64 f.R)).setCell ⟨w.heap.size + 1, 2, none⟩ (.int .i64 f.S)).setCell
        ⟨w.heap.size + 1, 3, none⟩ (.int .i64 f.P.K)).setCell ⟨w.heap.size + 1, 4, none⟩ (.int .i64 f.P.V)).setCell ⟨w.heap.size + 1, 5, none⟩ (.slice av f.E.length cv)) := by
  subst hp
  have kk := blk_set6 k2 h6 (.int .i64 f.K) (.int .i64 f.R) (.int .i64 f.S) (.int .i64 f.P.K) (.int .i64 f.P.V) (.slice av f.E.length cv)
  have hb2 := below_set6 (g := w.heap.size + 1) hB (by omega) (.int .i64 f.K) (.int .i64 f.R) (.int .i64 f.S) (.int .i64 f.P.K) (.int .i64 f.P.V) (.slice av f.E.length cv)
  have ho := right_far (w := w) (cv := cv) hr (.inr fun x hx => by have := hn x hx; omega) (g := w.heap.size + 1) (.int .i64 f.K) (.int .i64 f.R) (.int .i64 f.S) (.int .i64 f.P.K) (.int .i64 f.P.V) (.slice av f.E.length cv)
  generalize (((((wr.setCell _ _).setCell _ _).setCell _ _).setCell _ _).setCell _ _).setCell _ _ = W at *
  have q := kk.at
  simp at q
  refine bodyPost_ret (v := .tuple #[.agg #[.int .i64 f.K, .int .i64 f.R, .int .i64 f.S, .int .i64 f.P.K, .int .i64 f.P.V, .slice av f.E.length cv], .bool b]) (by simp [results, Tryd.results19, go_sem, h4, h5, q]) hd ⟨av, cv, rfl, ho, ?_, hb2⟩
  intro x hx
  have := hn x hx
  omega

theorem aisRound_any (r : Int) (w : World) (h0 : 0 ≤ r) (h1 : r ≤ 1073741824) : Calls Tryd.prog 32 #[.int .i64 r] w fun e w' => e = .returned (.bool true) ∧ w = w' := by
  have d1 : decide (0 ≤ r) = true := by simpa using h0
  go_enter Tryd.func32, Tryd.ntmps32
  go_wp2
  go_ret
  exact ⟨ret_bool (by simp), rfl⟩


set_option maxHeartbeats 1600000 in
theorem aRight_any (c : Cf) (ca : Option Addr) (cc : Nat) (r s : Int) (l : List UInt8) (w : World) (hbd : Bnds w) (hc : c.Ok) (hrow : Row w ca c.P) (h0 : 0 ≤ r) (h1 : r ≤ 1073741824) (hl : l.length ≤ 1048576) :
    Calls Tryd.prog 18 #[.agg #[.int .i64 c.N, .int .i64 c.Pi, .int .i64 c.E, .int .i64 c.G, .int .i64 c.F, .slice ca c.P.length cc], .int .i64 r, .int .i64 s, .string ⟨l.toArray⟩] w (RightRet (rightA c r s l) w) := by
  have hB0 : Below w.heap.size w ((w.alloc (.cells #[.int .i64 c.N, .int .i64 c.Pi, .int .i64 c.E, .int .i64 c.G, .int .i64 c.F, .slice ca c.P.length cc] 24)).alloc (.cells #[.int .i64 0, .int .i64 0, .int .i64 0, .int .i64 0, .int .i64 0, .slice none 0 0] 29)) := (alloc_below w _).alloc (by simp) _
  have hC : Blk ((w.alloc (.cells #[.int .i64 c.N, .int .i64 c.Pi, .int .i64 c.E, .int .i64 c.G, .int .i64 c.F, .slice ca c.P.length cc] 24)).alloc (.cells #[.int .i64 0, .int .i64 0, .int .i64 0, .int .i64 0, .int .i64 0, .slice none 0 0] 29)) w.heap.size 24 (confBox c ca cc) := (Blk.new w _ _).alloc _
  have hZ : Blk ((w.alloc (.cells #[.int .i64 c.N, .int .i64 c.Pi, .int .i64 c.E, .int .i64 c.G, .int .i64 c.F, .slice ca c.P.length cc] 24)).alloc (.cells #[.int .i64 0, .int .i64 0, .int .i64 0, .int .i64 0, .int .i64 0, .slice none 0 0] 29)) (w.heap.size + 1) 29 #[.int .i64 0, .int .i64 0, .int .i64 0, .int .i64 0, .int .i64 0, .slice none 0 0] := Blk.newAt _ _ (by simp)
  have hck := hc.check
  have HK := Lib.hid (fun W hb hr => ccheck_any c ca cc W hb hr)
  rw [hck] at HK
  have HRD := Lib.hid (fun W => fRead_any c ca cc l W hc hl)
  have HWi := Lib.hid (fun W => cwire_any c ca cc r W hc h0 (by omega))
  have HIR := Lib.hid (fun W => aisRound_any r W h0 h1)
  obtain ⟨f, e0, hfe⟩ : ∃ f e, readF c l = (f, e) := ⟨_, _, rfl⟩
  rw [hfe] at HRD
  have HA := Lib.hid (show rightA c r s l = if e0 = 0 ∧ f.R = wireI c r ∧ f.S = s then (f, true) else (zeroF, false) by unfold rightA; rw [hfe])
  clear hfe hck
  generalize rightA c r s l = A at *
  generalize wireI c r = wi at *
  go_enter Tryd.func18, Tryd.ntmps18
  go_upto_region 1 with fail
  generalize ((w.alloc (.cells #[.int .i64 c.N, .int .i64 c.Pi, .int .i64 c.E, .int .i64 c.G, .int .i64 c.F, .slice ca c.P.length cc] 24)).alloc (.cells #[.int .i64 0, .int .i64 0, .int .i64 0, .int .i64 0, .int .i64 0, .slice none 0 0] 29)) = w1 at *
  have hq := hC.at
  unfold confBox at hq
  go_wp2_with fail
  refine (HK.out _ (hbd.later hB0) (hrow.later hB0)).mono ?_
  rintro e w2 ⟨rfl, hb⟩
  replace hB0 := hB0.trans (hb.mono hB0.size)
  replace hC := hC.later hb
  replace hZ := hZ.later hb
  clear hb hq HK
  go_wp2_with fail
  refine (HIR.out _).mono ?_
  rintro e wl ⟨rfl, rfl⟩
  clear HIR
  have hq := hC.at
  unfold confBox at hq
  go_wp2_with fail
  refine (HRD.out _).mono ?_
  rintro e w3 ⟨fa, fc, rfl, hrf, hnf, hb⟩
  have hzl := hZ.lt
  replace hnf : ∀ x, fa = some x → w.heap.size + 1 < x.block := fun x hx => by have := hnf x hx; omega
  replace hB0 := hB0.trans (hb.mono hB0.size)
  replace hC := hC.later hb
  replace hZ := hZ.later hb
  clear hb hq HRD
  go_upto_region 4 with fail
  have hb := alloc_below w3 (.cells #[.int .i64 f.K, .int .i64 f.R, .int .i64 f.S, .int .i64 f.P.K, .int .i64 f.P.V, .slice fa f.E.length fc] 29)
  have hX : Blk (w3.alloc (.cells #[.int .i64 f.K, .int .i64 f.R, .int .i64 f.S, .int .i64 f.P.K, .int .i64 f.P.V, .slice fa f.E.length fc] 29)) w3.heap.size 29 (frBox f fa fc) := Blk.new w3 _ _
  replace hB0 := hB0.trans (hb.mono hB0.size)
  replace hC := hC.later hb
  replace hZ := hZ.later hb
  replace hrf := hrf.later hb
  clear hb
  generalize w3.alloc (.cells #[.int .i64 f.K, .int .i64 f.R, .int .i64 f.S, .int .i64 f.P.K, .int .i64 f.P.V, .slice fa f.E.length fc] 29) = w4 at *
  generalize w3.heap.size = xb at *
  by_cases he : e0 = 0
  · have d1 : (e0 != 0) = false := by simpa using he
    by_cases hR : f.R = wi
    · have d2 : (f.R != wi) = false := by simpa using hR
      by_cases hS : f.S = s
      · have d3 : (f.S != s) = false := by simpa using hS
        replace HA := Lib.hid (show A = (f, true) by rw [HA.out, if_pos ⟨he, hR, hS⟩])
        clear he hR hS
        refine region_slots [some 27, some 28, some 29, some 30, some 31, some 32, some 33, some 34, some 35, some 36, some 37, some 38, some 39, some 40, some 41, some 42] [none, none, none, none, none, none, none, none, none, none, none, none, none, none, none, none] 45 16 rfl (by kernel_rfl) (by kernel_rfl) rfl rfl ?_
        apply step_fix
        · intro a W Zs hS hFm hz hd
          have h11 := hFm.old 11 rfl
          conv at h11 => rhs; whnf
          replace h11 := ev_get hFm.size h11
          refine .inl ⟨wanted_none rfl _, fun K hK => ?_⟩
          have HK := Lib.hid hK
          clear hd hFm hK
          go_simp
          exact HK.out _ _ rfl (Below.refl _ _)
        simp only [List.nil_append, List.cons_append]
        apply step_fix
        · intro a W Zs hS hFm hz hd
          have h27 := ev_get hFm.size (hd 0 27 rfl rfl)
          refine .inl ⟨wanted_none rfl _, fun K hK => ?_⟩
          have HK := Lib.hid hK
          clear hd hFm hK
          go_simp
          exact HK.out _ _ rfl (Below.refl _ _)
        simp only [List.nil_append, List.cons_append]
        apply step_fix
        · intro a W Zs hS hFm hz hd
          have h28 := ev_get hFm.size (hd 1 28 rfl rfl)
          refine .inl ⟨wanted_none rfl _, fun K hK => ?_⟩
          have HK := Lib.hid hK
          clear hd hFm hK
          go_simp
          exact HK.out _ _ rfl (Below.refl _ _)
        simp only [List.nil_append, List.cons_append]
        apply step_fix
        · intro a W Zs hS hFm hz hd
          have h10 := hFm.old 10 rfl
          conv at h10 => rhs; whnf
          replace h10 := ev_get hFm.size h10
          refine .inl ⟨wanted_at rfl rfl (hd 2 29 rfl rfl), fun K hK => ?_⟩
          have HK := Lib.hid hK
          clear hd hFm hK
          go_simp
          exact HK.out _ _ rfl (Below.refl _ _)
        simp only [List.nil_append, List.cons_append]
        apply step_fix
        · intro a W Zs hS hFm hz hd
          have h30 := ev_get hFm.size (hd 3 30 rfl rfl)
          have hq := (hX.drew1.later hS).at
          unfold frBox at hq
          refine .inl ⟨wanted_at rfl rfl (hd 2 29 rfl rfl), fun K hK => ?_⟩
          have HK := Lib.hid hK
          clear hd hFm hK
          go_simp
          exact HK.out _ _ rfl (Below.refl _ _)
        simp only [List.nil_append, List.cons_append]
        apply step_fix
        · intro a W Zs hS hFm hz hd
          have h4 := hFm.old 4 rfl
          conv at h4 => rhs; whnf
          replace h4 := ev_get hFm.size h4
          have hq := (hC.drew1.later hS).at
          unfold confBox at hq
          refine .inl ⟨wanted_at rfl rfl (hd 2 29 rfl rfl), fun K hK => ?_⟩
          have HK := Lib.hid hK
          clear hd hFm hK
          go_simp
          exact HK.out _ _ rfl (Below.refl _ _)
        simp only [List.nil_append, List.cons_append]
        apply step_fix
        · intro a W Zs hS hFm hz hd
          have h1 := hFm.old 1 rfl
          conv at h1 => rhs; whnf
          replace h1 := ev_get hFm.size h1
          refine .inl ⟨wanted_at rfl rfl (hd 2 29 rfl rfl), fun K hK => ?_⟩
          have HK := Lib.hid hK
          clear hd hFm hK
          go_simp
          exact HK.out _ _ rfl (Below.refl _ _)
        simp only [List.nil_append, List.cons_append]
        apply step_fix
        · intro a W Zs hS hFm hz hd
          have h32 := ev_get hFm.size (hd 5 32 rfl rfl)
          have h33 := ev_get hFm.size (hd 6 33 rfl rfl)
          refine .inl ⟨wanted_at rfl rfl (hd 2 29 rfl rfl), fun K hK => ?_⟩
          have HK := Lib.hid hK
          clear hd hFm hK
          go_simp
          refine (HWi.out _).mono ?_
          rintro e W' ⟨rfl, hb⟩
          exact HK.out _ _ rfl hb
        simp only [List.nil_append, List.cons_append]
        apply step_fix
        · intro a W Zs hS hFm hz hd
          have h31 := ev_get hFm.size (hd 4 31 rfl rfl)
          have h34 := ev_get hFm.size (hd 7 34 rfl rfl)
          refine .inl ⟨wanted_at rfl rfl (hd 2 29 rfl rfl), fun K hK => ?_⟩
          have HK := Lib.hid hK
          clear hd hFm hK
          go_simp
          exact HK.out _ _ rfl (Below.refl _ _)
        simp only [List.nil_append, List.cons_append]
        apply step_fix
        · intro a W Zs hS hFm hz hd
          have h29 := ev_get hFm.size (hd 2 29 rfl rfl)
          have h35 := ev_get hFm.size (hd 8 35 rfl rfl)
          refine .inl ⟨wanted_none rfl _, fun K hK => ?_⟩
          have HK := Lib.hid hK
          clear hd hFm hK
          go_simp
          exact HK.out _ _ rfl (Below.refl _ _)
        simp only [List.nil_append, List.cons_append]
        apply step_fix
        · intro a W Zs hS hFm hz hd
          have h36 := ev_get hFm.size (hd 9 36 rfl rfl)
          refine .inl ⟨wanted_none rfl _, fun K hK => ?_⟩
          have HK := Lib.hid hK
          clear hd hFm hK
          go_simp
          exact HK.out _ _ rfl (Below.refl _ _)
        simp only [List.nil_append, List.cons_append]
        apply step_fix
        · intro a W Zs hS hFm hz hd
          have h10 := hFm.old 10 rfl
          conv at h10 => rhs; whnf
          replace h10 := ev_get hFm.size h10
          refine .inl ⟨wanted_at rfl rfl (hd 10 37 rfl rfl), fun K hK => ?_⟩
          have HK := Lib.hid hK
          clear hd hFm hK
          go_simp
          exact HK.out _ _ rfl (Below.refl _ _)
        simp only [List.nil_append, List.cons_append]
        apply step_fix
        · intro a W Zs hS hFm hz hd
          have h38 := ev_get hFm.size (hd 11 38 rfl rfl)
          have hq := (hX.drew1.later hS).at
          unfold frBox at hq
          refine .inl ⟨wanted_at rfl rfl (hd 10 37 rfl rfl), fun K hK => ?_⟩
          have HK := Lib.hid hK
          clear hd hFm hK
          go_simp
          exact HK.out _ _ rfl (Below.refl _ _)
        simp only [List.nil_append, List.cons_append]
        apply step_fix
        · intro a W Zs hS hFm hz hd
          have h2 := hFm.old 2 rfl
          conv at h2 => rhs; whnf
          replace h2 := ev_get hFm.size h2
          refine .inl ⟨wanted_at rfl rfl (hd 10 37 rfl rfl), fun K hK => ?_⟩
          have HK := Lib.hid hK
          clear hd hFm hK
          go_simp
          exact HK.out _ _ rfl (Below.refl _ _)
        simp only [List.nil_append, List.cons_append]
        apply step_fix
        · intro a W Zs hS hFm hz hd
          have h39 := ev_get hFm.size (hd 12 39 rfl rfl)
          have h40 := ev_get hFm.size (hd 13 40 rfl rfl)
          refine .inl ⟨wanted_at rfl rfl (hd 10 37 rfl rfl), fun K hK => ?_⟩
          have HK := Lib.hid hK
          clear hd hFm hK
          go_simp
          exact HK.out _ _ rfl (Below.refl _ _)
        simp only [List.nil_append, List.cons_append]
        apply step_fix
        · intro a W Zs hS hFm hz hd
          have h37 := ev_get hFm.size (hd 10 37 rfl rfl)
          have h41 := ev_get hFm.size (hd 14 41 rfl rfl)
          refine .inl ⟨wanted_none rfl _, fun K hK => ?_⟩
          have HK := Lib.hid hK
          clear hd hFm hK
          go_simp
          exact HK.out _ _ rfl (Below.refl _ _)
        simp only [List.nil_append, List.cons_append]
        intro a w5 Zs hS hFm hz hd
        have e42 := hd 15 42 (by decide) rfl
        have e0 := hFm.old 0 rfl
        conv at e0 => rhs; whnf
        have e1 := hFm.old 1 rfl
        conv at e1 => rhs; whnf
        have e2 := hFm.old 2 rfl
        conv at e2 => rhs; whnf
        have e3 := hFm.old 3 rfl
        conv at e3 => rhs; whnf
        have e4 := hFm.old 4 rfl
        conv at e4 => rhs; whnf
        have e5 := hFm.old 5 rfl
        conv at e5 => rhs; whnf
        have e6 := hFm.old 6 rfl
        conv at e6 => rhs; whnf
        have e7 := hFm.old 7 rfl
        conv at e7 => rhs; whnf
        have e8 := hFm.old 8 rfl
        conv at e8 => rhs; whnf
        have e9 := hFm.old 9 rfl
        conv at e9 => rhs; whnf
        have e10 := hFm.old 10 rfl
        conv at e10 => rhs; whnf
        have e11 := hFm.old 11 rfl
        conv at e11 => rhs; whnf
        have e12 := hFm.old 12 rfl
        conv at e12 => rhs; whnf
        have e13 := hFm.old 13 rfl
        conv at e13 => rhs; whnf
        have e14 := hFm.old 14 rfl
        conv at e14 => rhs; whnf
        have e15 := hFm.old 15 rfl
        conv at e15 => rhs; whnf
        have e16 := hFm.old 16 rfl
        conv at e16 => rhs; whnf
        have e17 := hFm.old 17 rfl
        conv at e17 => rhs; whnf
        have e18 := hFm.old 18 rfl
        conv at e18 => rhs; whnf
        have e19 := hFm.old 19 rfl
        conv at e19 => rhs; whnf
        have e20 := hFm.old 20 rfl
        conv at e20 => rhs; whnf
        have e21 := hFm.old 21 rfl
        conv at e21 => rhs; whnf
        have e22 := hFm.old 22 rfl
        conv at e22 => rhs; whnf
        have e23 := hFm.old 23 rfl
        conv at e23 => rhs; whnf
        have e24 := hFm.old 24 rfl
        conv at e24 => rhs; whnf
        have e25 := hFm.old 25 rfl
        conv at e25 => rhs; whnf
        have e26 := hFm.old 26 rfl
        conv at e26 => rhs; whnf
        have e43 := hFm.old 43 rfl
        conv at e43 => rhs; whnf
        have e44 := hFm.old 44 rfl
        conv at e44 => rhs; whnf
        have hsz := hFm.size
        have hdf := hFm.defers
        clear hd hFm
        obtain ⟨t, df⟩ := a
        simp only at hsz hdf
        subst hdf
        obtain ⟨x, hx⟩ : ∃ x : Nat → Value, ∀ i, t.getD i undef = x i := ⟨fun i => t.getD i undef, fun _ => rfl⟩
        have h42 := (hx 42).symm.trans e42
        have h0 := (hx 0).symm.trans e0
        have h1 := (hx 1).symm.trans e1
        have h2 := (hx 2).symm.trans e2
        have h3 := (hx 3).symm.trans e3
        have h4 := (hx 4).symm.trans e4
        have h5 := (hx 5).symm.trans e5
        have h6 := (hx 6).symm.trans e6
        have h7 := (hx 7).symm.trans e7
        have h8 := (hx 8).symm.trans e8
        have h9 := (hx 9).symm.trans e9
        have h10 := (hx 10).symm.trans e10
        have h11 := (hx 11).symm.trans e11
        have h12 := (hx 12).symm.trans e12
        have h13 := (hx 13).symm.trans e13
        have h14 := (hx 14).symm.trans e14
        have h15 := (hx 15).symm.trans e15
        have h16 := (hx 16).symm.trans e16
        have h17 := (hx 17).symm.trans e17
        have h18 := (hx 18).symm.trans e18
        have h19 := (hx 19).symm.trans e19
        have h20 := (hx 20).symm.trans e20
        have h21 := (hx 21).symm.trans e21
        have h22 := (hx 22).symm.trans e22
        have h23 := (hx 23).symm.trans e23
        have h24 := (hx 24).symm.trans e24
        have h25 := (hx 25).symm.trans e25
        have h26 := (hx 26).symm.trans e26
        have h43 := (hx 43).symm.trans e43
        have h44 := (hx 44).symm.trans e44
        have ht' : t = #[x 0, x 1, x 2, x 3, x 4, x 5, x 6, x 7, x 8, x 9, x 10, x 11, x 12, x 13, x 14, x 15, x 16, x 17, x 18, x 19, x 20, x 21, x 22, x 23, x 24, x 25, x 26, x 27, x 28, x 29, x 30, x 31, x 32, x 33, x 34, x 35, x 36, x 37, x 38, x 39, x 40, x 41, x 42, x 43, x 44] := frame_lit t 45 hsz x hx
        clear hx hsz hz e42 e0 e1 e2 e3 e4 e5 e6 e7 e8 e9 e10 e11 e12 e13 e14 e15 e16 e17 e18 e19 e20 e21 e22 e23 e24 e25 e26 e43 e44
        subst ht'
        (try dsimp only)
        rw [h42, h0, h1, h2, h3, h4, h5, h6, h7, h8, h9, h10, h11, h12, h13, h14, h15, h16, h17, h18, h19, h20, h21, h22, h23, h24, h25, h26, h43, h44]
        clear h42 h0 h1 h2 h3 h4 h5 h6 h7 h8 h9 h10 h11 h12 h13 h14 h15 h16 h17 h18 h19 h20 h21 h22 h23 h24 h25 h26 h43 h44
        rw [undef_fold]
        have hb := from_drew hS
        replace hB0 := hB0.trans (hb.mono hB0.size)
        replace hC := hC.later hb
        replace hZ := hZ.later hb
        replace hX := hX.later hb
        replace hrf := hrf.later hb
        have hqx := hX.at
        unfold frBox at hqx
        clear hb hS
        have hfz := hZ.frozen
        have hqz := hZ.at
        go_wp2
        exact aright_end f true w w5 fa fc _ rfl hB0 hZ (hrf) (hnf) HA.out
      · have d3 : (f.S != s) = true := by simpa using hS
        replace HA := Lib.hid (show A = (zeroF, false) by rw [HA.out, if_neg (fun q => hS q.2.2)])
        clear he hR hS
        refine region_slots [some 27, some 28, some 29, some 30, some 31, some 32, some 33, some 34, some 35, some 36, some 37, some 38, some 39, some 40, some 41, some 42] [none, none, none, none, none, none, none, none, none, none, none, none, none, none, none, none] 45 16 rfl (by kernel_rfl) (by kernel_rfl) rfl rfl ?_
        apply step_fix
        · intro a W Zs hS hFm hz hd
          have h11 := hFm.old 11 rfl
          conv at h11 => rhs; whnf
          replace h11 := ev_get hFm.size h11
          refine .inl ⟨wanted_none rfl _, fun K hK => ?_⟩
          have HK := Lib.hid hK
          clear hd hFm hK
          go_simp
          exact HK.out _ _ rfl (Below.refl _ _)
        simp only [List.nil_append, List.cons_append]
        apply step_fix
        · intro a W Zs hS hFm hz hd
          have h27 := ev_get hFm.size (hd 0 27 rfl rfl)
          refine .inl ⟨wanted_none rfl _, fun K hK => ?_⟩
          have HK := Lib.hid hK
          clear hd hFm hK
          go_simp
          exact HK.out _ _ rfl (Below.refl _ _)
        simp only [List.nil_append, List.cons_append]
        apply step_fix
        · intro a W Zs hS hFm hz hd
          have h28 := ev_get hFm.size (hd 1 28 rfl rfl)
          refine .inl ⟨wanted_none rfl _, fun K hK => ?_⟩
          have HK := Lib.hid hK
          clear hd hFm hK
          go_simp
          exact HK.out _ _ rfl (Below.refl _ _)
        simp only [List.nil_append, List.cons_append]
        apply step_fix
        · intro a W Zs hS hFm hz hd
          have h10 := hFm.old 10 rfl
          conv at h10 => rhs; whnf
          replace h10 := ev_get hFm.size h10
          refine .inl ⟨wanted_at rfl rfl (hd 2 29 rfl rfl), fun K hK => ?_⟩
          have HK := Lib.hid hK
          clear hd hFm hK
          go_simp
          exact HK.out _ _ rfl (Below.refl _ _)
        simp only [List.nil_append, List.cons_append]
        apply step_fix
        · intro a W Zs hS hFm hz hd
          have h30 := ev_get hFm.size (hd 3 30 rfl rfl)
          have hq := (hX.drew1.later hS).at
          unfold frBox at hq
          refine .inl ⟨wanted_at rfl rfl (hd 2 29 rfl rfl), fun K hK => ?_⟩
          have HK := Lib.hid hK
          clear hd hFm hK
          go_simp
          exact HK.out _ _ rfl (Below.refl _ _)
        simp only [List.nil_append, List.cons_append]
        apply step_fix
        · intro a W Zs hS hFm hz hd
          have h4 := hFm.old 4 rfl
          conv at h4 => rhs; whnf
          replace h4 := ev_get hFm.size h4
          have hq := (hC.drew1.later hS).at
          unfold confBox at hq
          refine .inl ⟨wanted_at rfl rfl (hd 2 29 rfl rfl), fun K hK => ?_⟩
          have HK := Lib.hid hK
          clear hd hFm hK
          go_simp
          exact HK.out _ _ rfl (Below.refl _ _)
        simp only [List.nil_append, List.cons_append]
        apply step_fix
        · intro a W Zs hS hFm hz hd
          have h1 := hFm.old 1 rfl
          conv at h1 => rhs; whnf
          replace h1 := ev_get hFm.size h1
          refine .inl ⟨wanted_at rfl rfl (hd 2 29 rfl rfl), fun K hK => ?_⟩
          have HK := Lib.hid hK
          clear hd hFm hK
          go_simp
          exact HK.out _ _ rfl (Below.refl _ _)
        simp only [List.nil_append, List.cons_append]
        apply step_fix
        · intro a W Zs hS hFm hz hd
          have h32 := ev_get hFm.size (hd 5 32 rfl rfl)
          have h33 := ev_get hFm.size (hd 6 33 rfl rfl)
          refine .inl ⟨wanted_at rfl rfl (hd 2 29 rfl rfl), fun K hK => ?_⟩
          have HK := Lib.hid hK
          clear hd hFm hK
          go_simp
          refine (HWi.out _).mono ?_
          rintro e W' ⟨rfl, hb⟩
          exact HK.out _ _ rfl hb
        simp only [List.nil_append, List.cons_append]
        apply step_fix
        · intro a W Zs hS hFm hz hd
          have h31 := ev_get hFm.size (hd 4 31 rfl rfl)
          have h34 := ev_get hFm.size (hd 7 34 rfl rfl)
          refine .inl ⟨wanted_at rfl rfl (hd 2 29 rfl rfl), fun K hK => ?_⟩
          have HK := Lib.hid hK
          clear hd hFm hK
          go_simp
          exact HK.out _ _ rfl (Below.refl _ _)
        simp only [List.nil_append, List.cons_append]
        apply step_fix
        · intro a W Zs hS hFm hz hd
          have h29 := ev_get hFm.size (hd 2 29 rfl rfl)
          have h35 := ev_get hFm.size (hd 8 35 rfl rfl)
          refine .inl ⟨wanted_none rfl _, fun K hK => ?_⟩
          have HK := Lib.hid hK
          clear hd hFm hK
          go_simp
          exact HK.out _ _ rfl (Below.refl _ _)
        simp only [List.nil_append, List.cons_append]
        apply step_fix
        · intro a W Zs hS hFm hz hd
          have h36 := ev_get hFm.size (hd 9 36 rfl rfl)
          refine .inl ⟨wanted_none rfl _, fun K hK => ?_⟩
          have HK := Lib.hid hK
          clear hd hFm hK
          go_simp
          exact HK.out _ _ rfl (Below.refl _ _)
        simp only [List.nil_append, List.cons_append]
        apply step_fix
        · intro a W Zs hS hFm hz hd
          have h10 := hFm.old 10 rfl
          conv at h10 => rhs; whnf
          replace h10 := ev_get hFm.size h10
          refine .inl ⟨wanted_at rfl rfl (hd 10 37 rfl rfl), fun K hK => ?_⟩
          have HK := Lib.hid hK
          clear hd hFm hK
          go_simp
          exact HK.out _ _ rfl (Below.refl _ _)
        simp only [List.nil_append, List.cons_append]
        apply step_fix
        · intro a W Zs hS hFm hz hd
          have h38 := ev_get hFm.size (hd 11 38 rfl rfl)
          have hq := (hX.drew1.later hS).at
          unfold frBox at hq
          refine .inl ⟨wanted_at rfl rfl (hd 10 37 rfl rfl), fun K hK => ?_⟩
          have HK := Lib.hid hK
          clear hd hFm hK
          go_simp
          exact HK.out _ _ rfl (Below.refl _ _)
        simp only [List.nil_append, List.cons_append]
        apply step_fix
        · intro a W Zs hS hFm hz hd
          have h2 := hFm.old 2 rfl
          conv at h2 => rhs; whnf
          replace h2 := ev_get hFm.size h2
          refine .inl ⟨wanted_at rfl rfl (hd 10 37 rfl rfl), fun K hK => ?_⟩
          have HK := Lib.hid hK
          clear hd hFm hK
          go_simp
          exact HK.out _ _ rfl (Below.refl _ _)
        simp only [List.nil_append, List.cons_append]
        apply step_fix
        · intro a W Zs hS hFm hz hd
          have h39 := ev_get hFm.size (hd 12 39 rfl rfl)
          have h40 := ev_get hFm.size (hd 13 40 rfl rfl)
          refine .inl ⟨wanted_at rfl rfl (hd 10 37 rfl rfl), fun K hK => ?_⟩
          have HK := Lib.hid hK
          clear hd hFm hK
          go_simp
          exact HK.out _ _ rfl (Below.refl _ _)
        simp only [List.nil_append, List.cons_append]
        apply step_fix
        · intro a W Zs hS hFm hz hd
          have h37 := ev_get hFm.size (hd 10 37 rfl rfl)
          have h41 := ev_get hFm.size (hd 14 41 rfl rfl)
          refine .inl ⟨wanted_none rfl _, fun K hK => ?_⟩
          have HK := Lib.hid hK
          clear hd hFm hK
          go_simp
          exact HK.out _ _ rfl (Below.refl _ _)
        simp only [List.nil_append, List.cons_append]
        intro a w5 Zs hS hFm hz hd
        have e42 := hd 15 42 (by decide) rfl
        have e0 := hFm.old 0 rfl
        conv at e0 => rhs; whnf
        have e1 := hFm.old 1 rfl
        conv at e1 => rhs; whnf
        have e2 := hFm.old 2 rfl
        conv at e2 => rhs; whnf
        have e3 := hFm.old 3 rfl
        conv at e3 => rhs; whnf
        have e4 := hFm.old 4 rfl
        conv at e4 => rhs; whnf
        have e5 := hFm.old 5 rfl
        conv at e5 => rhs; whnf
        have e6 := hFm.old 6 rfl
        conv at e6 => rhs; whnf
        have e7 := hFm.old 7 rfl
        conv at e7 => rhs; whnf
        have e8 := hFm.old 8 rfl
        conv at e8 => rhs; whnf
        have e9 := hFm.old 9 rfl
        conv at e9 => rhs; whnf
        have e10 := hFm.old 10 rfl
        conv at e10 => rhs; whnf
        have e11 := hFm.old 11 rfl
        conv at e11 => rhs; whnf
        have e12 := hFm.old 12 rfl
        conv at e12 => rhs; whnf
        have e13 := hFm.old 13 rfl
        conv at e13 => rhs; whnf
        have e14 := hFm.old 14 rfl
        conv at e14 => rhs; whnf
        have e15 := hFm.old 15 rfl
        conv at e15 => rhs; whnf
        have e16 := hFm.old 16 rfl
        conv at e16 => rhs; whnf
        have e17 := hFm.old 17 rfl
        conv at e17 => rhs; whnf
        have e18 := hFm.old 18 rfl
        conv at e18 => rhs; whnf
        have e19 := hFm.old 19 rfl
        conv at e19 => rhs; whnf
        have e20 := hFm.old 20 rfl
        conv at e20 => rhs; whnf
        have e21 := hFm.old 21 rfl
        conv at e21 => rhs; whnf
        have e22 := hFm.old 22 rfl
        conv at e22 => rhs; whnf
        have e23 := hFm.old 23 rfl
        conv at e23 => rhs; whnf
        have e24 := hFm.old 24 rfl
        conv at e24 => rhs; whnf
        have e25 := hFm.old 25 rfl
        conv at e25 => rhs; whnf
        have e26 := hFm.old 26 rfl
        conv at e26 => rhs; whnf
        have e43 := hFm.old 43 rfl
        conv at e43 => rhs; whnf
        have e44 := hFm.old 44 rfl
        conv at e44 => rhs; whnf
        have hsz := hFm.size
        have hdf := hFm.defers
        clear hd hFm
        obtain ⟨t, df⟩ := a
        simp only at hsz hdf
        subst hdf
        obtain ⟨x, hx⟩ : ∃ x : Nat → Value, ∀ i, t.getD i undef = x i := ⟨fun i => t.getD i undef, fun _ => rfl⟩
        have h42 := (hx 42).symm.trans e42
        have h0 := (hx 0).symm.trans e0
        have h1 := (hx 1).symm.trans e1
        have h2 := (hx 2).symm.trans e2
        have h3 := (hx 3).symm.trans e3
        have h4 := (hx 4).symm.trans e4
        have h5 := (hx 5).symm.trans e5
        have h6 := (hx 6).symm.trans e6
        have h7 := (hx 7).symm.trans e7
        have h8 := (hx 8).symm.trans e8
        have h9 := (hx 9).symm.trans e9
        have h10 := (hx 10).symm.trans e10
        have h11 := (hx 11).symm.trans e11
        have h12 := (hx 12).symm.trans e12
        have h13 := (hx 13).symm.trans e13
        have h14 := (hx 14).symm.trans e14
        have h15 := (hx 15).symm.trans e15
        have h16 := (hx 16).symm.trans e16
        have h17 := (hx 17).symm.trans e17
        have h18 := (hx 18).symm.trans e18
        have h19 := (hx 19).symm.trans e19
        have h20 := (hx 20).symm.trans e20
        have h21 := (hx 21).symm.trans e21
        have h22 := (hx 22).symm.trans e22
        have h23 := (hx 23).symm.trans e23
        have h24 := (hx 24).symm.trans e24
        have h25 := (hx 25).symm.trans e25
        have h26 := (hx 26).symm.trans e26
        have h43 := (hx 43).symm.trans e43
        have h44 := (hx 44).symm.trans e44
        have ht' : t = #[x 0, x 1, x 2, x 3, x 4, x 5, x 6, x 7, x 8, x 9, x 10, x 11, x 12, x 13, x 14, x 15, x 16, x 17, x 18, x 19, x 20, x 21, x 22, x 23, x 24, x 25, x 26, x 27, x 28, x 29, x 30, x 31, x 32, x 33, x 34, x 35, x 36, x 37, x 38, x 39, x 40, x 41, x 42, x 43, x 44] := frame_lit t 45 hsz x hx
        clear hx hsz hz e42 e0 e1 e2 e3 e4 e5 e6 e7 e8 e9 e10 e11 e12 e13 e14 e15 e16 e17 e18 e19 e20 e21 e22 e23 e24 e25 e26 e43 e44
        subst ht'
        (try dsimp only)
        rw [h42, h0, h1, h2, h3, h4, h5, h6, h7, h8, h9, h10, h11, h12, h13, h14, h15, h16, h17, h18, h19, h20, h21, h22, h23, h24, h25, h26, h43, h44]
        clear h42 h0 h1 h2 h3 h4 h5 h6 h7 h8 h9 h10 h11 h12 h13 h14 h15 h16 h17 h18 h19 h20 h21 h22 h23 h24 h25 h26 h43 h44
        rw [undef_fold]
        have hb := from_drew hS
        replace hB0 := hB0.trans (hb.mono hB0.size)
        replace hC := hC.later hb
        replace hZ := hZ.later hb
        clear hb hS
        have hfz := hZ.frozen
        have hqz := hZ.at
        go_wp2
        exact aright_end zeroF false w w5 none 0 _ rfl hB0 hZ (RowT.empty _ _) (fun x hx => by cases hx) HA.out
    · have d2 : (f.R != wi) = true := by simpa using hR
      replace HA := Lib.hid (show A = (zeroF, false) by rw [HA.out, if_neg (fun q => hR q.2.1)])
      clear he hR
      refine region_slots [some 27, some 28, some 29, some 30, some 31, some 32, some 33, some 34, some 35, some 36, some 37, some 38, some 39, some 40, some 41, some 42] [none, none, none, none, none, none, none, none, none, none, none, none, none, none, none, none] 45 16 rfl (by kernel_rfl) (by kernel_rfl) rfl rfl ?_
      apply step_fix
      · intro a W Zs hS hFm hz hd
        have h11 := hFm.old 11 rfl
        conv at h11 => rhs; whnf
        replace h11 := ev_get hFm.size h11
        refine .inl ⟨wanted_none rfl _, fun K hK => ?_⟩
        have HK := Lib.hid hK
        clear hd hFm hK
        go_simp
        exact HK.out _ _ rfl (Below.refl _ _)
      simp only [List.nil_append, List.cons_append]
      apply step_fix
      · intro a W Zs hS hFm hz hd
        have h27 := ev_get hFm.size (hd 0 27 rfl rfl)
        refine .inl ⟨wanted_none rfl _, fun K hK => ?_⟩
        have HK := Lib.hid hK
        clear hd hFm hK
        go_simp
        exact HK.out _ _ rfl (Below.refl _ _)
      simp only [List.nil_append, List.cons_append]
      apply step_fix
      · intro a W Zs hS hFm hz hd
        have h28 := ev_get hFm.size (hd 1 28 rfl rfl)
        refine .inl ⟨wanted_none rfl _, fun K hK => ?_⟩
        have HK := Lib.hid hK
        clear hd hFm hK
        go_simp
        exact HK.out _ _ rfl (Below.refl _ _)
      simp only [List.nil_append, List.cons_append]
      apply step_fix
      · intro a W Zs hS hFm hz hd
        have h10 := hFm.old 10 rfl
        conv at h10 => rhs; whnf
        replace h10 := ev_get hFm.size h10
        refine .inl ⟨wanted_at rfl rfl (hd 2 29 rfl rfl), fun K hK => ?_⟩
        have HK := Lib.hid hK
        clear hd hFm hK
        go_simp
        exact HK.out _ _ rfl (Below.refl _ _)
      simp only [List.nil_append, List.cons_append]
      apply step_fix
      · intro a W Zs hS hFm hz hd
        have h30 := ev_get hFm.size (hd 3 30 rfl rfl)
        have hq := (hX.drew1.later hS).at
        unfold frBox at hq
        refine .inl ⟨wanted_at rfl rfl (hd 2 29 rfl rfl), fun K hK => ?_⟩
        have HK := Lib.hid hK
        clear hd hFm hK
        go_simp
        exact HK.out _ _ rfl (Below.refl _ _)
      simp only [List.nil_append, List.cons_append]
      apply step_fix
      · intro a W Zs hS hFm hz hd
        have h4 := hFm.old 4 rfl
        conv at h4 => rhs; whnf
        replace h4 := ev_get hFm.size h4
        have hq := (hC.drew1.later hS).at
        unfold confBox at hq
        refine .inl ⟨wanted_at rfl rfl (hd 2 29 rfl rfl), fun K hK => ?_⟩
        have HK := Lib.hid hK
        clear hd hFm hK
        go_simp
        exact HK.out _ _ rfl (Below.refl _ _)
      simp only [List.nil_append, List.cons_append]
      apply step_fix
      · intro a W Zs hS hFm hz hd
        have h1 := hFm.old 1 rfl
        conv at h1 => rhs; whnf
        replace h1 := ev_get hFm.size h1
        refine .inl ⟨wanted_at rfl rfl (hd 2 29 rfl rfl), fun K hK => ?_⟩
        have HK := Lib.hid hK
        clear hd hFm hK
        go_simp
        exact HK.out _ _ rfl (Below.refl _ _)
      simp only [List.nil_append, List.cons_append]
      apply step_fix
      · intro a W Zs hS hFm hz hd
        have h32 := ev_get hFm.size (hd 5 32 rfl rfl)
        have h33 := ev_get hFm.size (hd 6 33 rfl rfl)
        refine .inl ⟨wanted_at rfl rfl (hd 2 29 rfl rfl), fun K hK => ?_⟩
        have HK := Lib.hid hK
        clear hd hFm hK
        go_simp
        refine (HWi.out _).mono ?_
        rintro e W' ⟨rfl, hb⟩
        exact HK.out _ _ rfl hb
      simp only [List.nil_append, List.cons_append]
      apply step_fix
      · intro a W Zs hS hFm hz hd
        have h31 := ev_get hFm.size (hd 4 31 rfl rfl)
        have h34 := ev_get hFm.size (hd 7 34 rfl rfl)
        refine .inl ⟨wanted_at rfl rfl (hd 2 29 rfl rfl), fun K hK => ?_⟩
        have HK := Lib.hid hK
        clear hd hFm hK
        go_simp
        exact HK.out _ _ rfl (Below.refl _ _)
      simp only [List.nil_append, List.cons_append]
      apply step_fix
      · intro a W Zs hS hFm hz hd
        have h29 := ev_get hFm.size (hd 2 29 rfl rfl)
        have h35 := ev_get hFm.size (hd 8 35 rfl rfl)
        refine .inl ⟨wanted_none rfl _, fun K hK => ?_⟩
        have HK := Lib.hid hK
        clear hd hFm hK
        go_simp
        exact HK.out _ _ rfl (Below.refl _ _)
      simp only [List.nil_append, List.cons_append]
      apply step_fix
      · intro a W Zs hS hFm hz hd
        have h36 := ev_get hFm.size (hd 9 36 rfl rfl)
        refine .inl ⟨wanted_none rfl _, fun K hK => ?_⟩
        have HK := Lib.hid hK
        clear hd hFm hK
        go_simp
        exact HK.out _ _ rfl (Below.refl _ _)
      simp only [List.nil_append, List.cons_append]
      apply step_fix
      · intro a W Zs hS hFm hz hd
        exact .inr ⟨wanted_not rfl rfl (hd 10 37 rfl rfl), rfl⟩
      simp only [List.nil_append, List.cons_append]
      apply step_fix
      · intro a W Zs hS hFm hz hd
        exact .inr ⟨wanted_not rfl rfl (hd 10 37 rfl rfl), rfl⟩
      simp only [List.nil_append, List.cons_append]
      apply step_fix
      · intro a W Zs hS hFm hz hd
        exact .inr ⟨wanted_not rfl rfl (hd 10 37 rfl rfl), rfl⟩
      simp only [List.nil_append, List.cons_append]
      apply step_fix
      · intro a W Zs hS hFm hz hd
        exact .inr ⟨wanted_not rfl rfl (hd 10 37 rfl rfl), rfl⟩
      simp only [List.nil_append, List.cons_append]
      apply step_fix
      · intro a W Zs hS hFm hz hd
        have h37 := ev_get hFm.size (hd 10 37 rfl rfl)
        have h41 := ev_get hFm.size (hd 14 41 rfl rfl)
        refine .inl ⟨wanted_none rfl _, fun K hK => ?_⟩
        have HK := Lib.hid hK
        clear hd hFm hK
        go_simp
        exact HK.out _ _ rfl (Below.refl _ _)
      simp only [List.nil_append, List.cons_append]
      intro a w5 Zs hS hFm hz hd
      have e42 := hd 15 42 (by decide) rfl
      have e0 := hFm.old 0 rfl
      conv at e0 => rhs; whnf
      have e1 := hFm.old 1 rfl
      conv at e1 => rhs; whnf
      have e2 := hFm.old 2 rfl
      conv at e2 => rhs; whnf
      have e3 := hFm.old 3 rfl
      conv at e3 => rhs; whnf
      have e4 := hFm.old 4 rfl
      conv at e4 => rhs; whnf
      have e5 := hFm.old 5 rfl
      conv at e5 => rhs; whnf
      have e6 := hFm.old 6 rfl
      conv at e6 => rhs; whnf
      have e7 := hFm.old 7 rfl
      conv at e7 => rhs; whnf
      have e8 := hFm.old 8 rfl
      conv at e8 => rhs; whnf
      have e9 := hFm.old 9 rfl
      conv at e9 => rhs; whnf
      have e10 := hFm.old 10 rfl
      conv at e10 => rhs; whnf
      have e11 := hFm.old 11 rfl
      conv at e11 => rhs; whnf
      have e12 := hFm.old 12 rfl
      conv at e12 => rhs; whnf
      have e13 := hFm.old 13 rfl
      conv at e13 => rhs; whnf
      have e14 := hFm.old 14 rfl
      conv at e14 => rhs; whnf
      have e15 := hFm.old 15 rfl
      conv at e15 => rhs; whnf
      have e16 := hFm.old 16 rfl
      conv at e16 => rhs; whnf
      have e17 := hFm.old 17 rfl
      conv at e17 => rhs; whnf
      have e18 := hFm.old 18 rfl
      conv at e18 => rhs; whnf
      have e19 := hFm.old 19 rfl
      conv at e19 => rhs; whnf
      have e20 := hFm.old 20 rfl
      conv at e20 => rhs; whnf
      have e21 := hFm.old 21 rfl
      conv at e21 => rhs; whnf
      have e22 := hFm.old 22 rfl
      conv at e22 => rhs; whnf
      have e23 := hFm.old 23 rfl
      conv at e23 => rhs; whnf
      have e24 := hFm.old 24 rfl
      conv at e24 => rhs; whnf
      have e25 := hFm.old 25 rfl
      conv at e25 => rhs; whnf
      have e26 := hFm.old 26 rfl
      conv at e26 => rhs; whnf
      have e43 := hFm.old 43 rfl
      conv at e43 => rhs; whnf
      have e44 := hFm.old 44 rfl
      conv at e44 => rhs; whnf
      have hsz := hFm.size
      have hdf := hFm.defers
      clear hd hFm
      obtain ⟨t, df⟩ := a
      simp only at hsz hdf
      subst hdf
      obtain ⟨x, hx⟩ : ∃ x : Nat → Value, ∀ i, t.getD i undef = x i := ⟨fun i => t.getD i undef, fun _ => rfl⟩
      have h42 := (hx 42).symm.trans e42
      have h0 := (hx 0).symm.trans e0
      have h1 := (hx 1).symm.trans e1
      have h2 := (hx 2).symm.trans e2
      have h3 := (hx 3).symm.trans e3
      have h4 := (hx 4).symm.trans e4
      have h5 := (hx 5).symm.trans e5
      have h6 := (hx 6).symm.trans e6
      have h7 := (hx 7).symm.trans e7
      have h8 := (hx 8).symm.trans e8
      have h9 := (hx 9).symm.trans e9
      have h10 := (hx 10).symm.trans e10
      have h11 := (hx 11).symm.trans e11
      have h12 := (hx 12).symm.trans e12
      have h13 := (hx 13).symm.trans e13
      have h14 := (hx 14).symm.trans e14
      have h15 := (hx 15).symm.trans e15
      have h16 := (hx 16).symm.trans e16
      have h17 := (hx 17).symm.trans e17
      have h18 := (hx 18).symm.trans e18
      have h19 := (hx 19).symm.trans e19
      have h20 := (hx 20).symm.trans e20
      have h21 := (hx 21).symm.trans e21
      have h22 := (hx 22).symm.trans e22
      have h23 := (hx 23).symm.trans e23
      have h24 := (hx 24).symm.trans e24
      have h25 := (hx 25).symm.trans e25
      have h26 := (hx 26).symm.trans e26
      have h43 := (hx 43).symm.trans e43
      have h44 := (hx 44).symm.trans e44
      have ht' : t = #[x 0, x 1, x 2, x 3, x 4, x 5, x 6, x 7, x 8, x 9, x 10, x 11, x 12, x 13, x 14, x 15, x 16, x 17, x 18, x 19, x 20, x 21, x 22, x 23, x 24, x 25, x 26, x 27, x 28, x 29, x 30, x 31, x 32, x 33, x 34, x 35, x 36, x 37, x 38, x 39, x 40, x 41, x 42, x 43, x 44] := frame_lit t 45 hsz x hx
      clear hx hsz hz e42 e0 e1 e2 e3 e4 e5 e6 e7 e8 e9 e10 e11 e12 e13 e14 e15 e16 e17 e18 e19 e20 e21 e22 e23 e24 e25 e26 e43 e44
      subst ht'
      (try dsimp only)
      rw [h42, h0, h1, h2, h3, h4, h5, h6, h7, h8, h9, h10, h11, h12, h13, h14, h15, h16, h17, h18, h19, h20, h21, h22, h23, h24, h25, h26, h43, h44]
      clear h42 h0 h1 h2 h3 h4 h5 h6 h7 h8 h9 h10 h11 h12 h13 h14 h15 h16 h17 h18 h19 h20 h21 h22 h23 h24 h25 h26 h43 h44
      rw [undef_fold]
      have hb := from_drew hS
      replace hB0 := hB0.trans (hb.mono hB0.size)
      replace hC := hC.later hb
      replace hZ := hZ.later hb
      clear hb hS
      have hfz := hZ.frozen
      have hqz := hZ.at
      go_wp2
      exact aright_end zeroF false w w5 none 0 _ rfl hB0 hZ (RowT.empty _ _) (fun x hx => by cases hx) HA.out
  · have d1 : (e0 != 0) = true := by simpa using he
    replace HA := Lib.hid (show A = (zeroF, false) by rw [HA.out, if_neg (fun q => he q.1)])
    clear he
    refine region_slots [some 27, some 28, some 29, some 30, some 31, some 32, some 33, some 34, some 35, some 36, some 37, some 38, some 39, some 40, some 41, some 42] [none, none, none, none, none, none, none, none, none, none, none, none, none, none, none, none] 45 16 rfl (by kernel_rfl) (by kernel_rfl) rfl rfl ?_
    apply step_fix
    · intro a W Zs hS hFm hz hd
      have h11 := hFm.old 11 rfl
      conv at h11 => rhs; whnf
      replace h11 := ev_get hFm.size h11
      refine .inl ⟨wanted_none rfl _, fun K hK => ?_⟩
      have HK := Lib.hid hK
      clear hd hFm hK
      go_simp
      exact HK.out _ _ rfl (Below.refl _ _)
    simp only [List.nil_append, List.cons_append]
    apply step_fix
    · intro a W Zs hS hFm hz hd
      have h27 := ev_get hFm.size (hd 0 27 rfl rfl)
      refine .inl ⟨wanted_none rfl _, fun K hK => ?_⟩
      have HK := Lib.hid hK
      clear hd hFm hK
      go_simp
      exact HK.out _ _ rfl (Below.refl _ _)
    simp only [List.nil_append, List.cons_append]
    apply step_fix
    · intro a W Zs hS hFm hz hd
      have h28 := ev_get hFm.size (hd 1 28 rfl rfl)
      refine .inl ⟨wanted_none rfl _, fun K hK => ?_⟩
      have HK := Lib.hid hK
      clear hd hFm hK
      go_simp
      exact HK.out _ _ rfl (Below.refl _ _)
    simp only [List.nil_append, List.cons_append]
    apply step_fix
    · intro a W Zs hS hFm hz hd
      exact .inr ⟨wanted_not rfl rfl (hd 2 29 rfl rfl), rfl⟩
    simp only [List.nil_append, List.cons_append]
    apply step_fix
    · intro a W Zs hS hFm hz hd
      exact .inr ⟨wanted_not rfl rfl (hd 2 29 rfl rfl), rfl⟩
    simp only [List.nil_append, List.cons_append]
    apply step_fix
    · intro a W Zs hS hFm hz hd
      exact .inr ⟨wanted_not rfl rfl (hd 2 29 rfl rfl), rfl⟩
    simp only [List.nil_append, List.cons_append]
    apply step_fix
    · intro a W Zs hS hFm hz hd
      exact .inr ⟨wanted_not rfl rfl (hd 2 29 rfl rfl), rfl⟩
    simp only [List.nil_append, List.cons_append]
    apply step_fix
    · intro a W Zs hS hFm hz hd
      exact .inr ⟨wanted_not rfl rfl (hd 2 29 rfl rfl), rfl⟩
    simp only [List.nil_append, List.cons_append]
    apply step_fix
    · intro a W Zs hS hFm hz hd
      exact .inr ⟨wanted_not rfl rfl (hd 2 29 rfl rfl), rfl⟩
    simp only [List.nil_append, List.cons_append]
    apply step_fix
    · intro a W Zs hS hFm hz hd
      have h29 := ev_get hFm.size (hd 2 29 rfl rfl)
      have h35 := ev_get hFm.size (hd 8 35 rfl rfl)
      refine .inl ⟨wanted_none rfl _, fun K hK => ?_⟩
      have HK := Lib.hid hK
      clear hd hFm hK
      go_simp
      exact HK.out _ _ rfl (Below.refl _ _)
    simp only [List.nil_append, List.cons_append]
    apply step_fix
    · intro a W Zs hS hFm hz hd
      have h36 := ev_get hFm.size (hd 9 36 rfl rfl)
      refine .inl ⟨wanted_none rfl _, fun K hK => ?_⟩
      have HK := Lib.hid hK
      clear hd hFm hK
      go_simp
      exact HK.out _ _ rfl (Below.refl _ _)
    simp only [List.nil_append, List.cons_append]
    apply step_fix
    · intro a W Zs hS hFm hz hd
      exact .inr ⟨wanted_not rfl rfl (hd 10 37 rfl rfl), rfl⟩
    simp only [List.nil_append, List.cons_append]
    apply step_fix
    · intro a W Zs hS hFm hz hd
      exact .inr ⟨wanted_not rfl rfl (hd 10 37 rfl rfl), rfl⟩
    simp only [List.nil_append, List.cons_append]
    apply step_fix
    · intro a W Zs hS hFm hz hd
      exact .inr ⟨wanted_not rfl rfl (hd 10 37 rfl rfl), rfl⟩
    simp only [List.nil_append, List.cons_append]
    apply step_fix
    · intro a W Zs hS hFm hz hd
      exact .inr ⟨wanted_not rfl rfl (hd 10 37 rfl rfl), rfl⟩
    simp only [List.nil_append, List.cons_append]
    apply step_fix
    · intro a W Zs hS hFm hz hd
      have h37 := ev_get hFm.size (hd 10 37 rfl rfl)
      have h41 := ev_get hFm.size (hd 14 41 rfl rfl)
      refine .inl ⟨wanted_none rfl _, fun K hK => ?_⟩
      have HK := Lib.hid hK
      clear hd hFm hK
      go_simp
      exact HK.out _ _ rfl (Below.refl _ _)
    simp only [List.nil_append, List.cons_append]
    intro a w5 Zs hS hFm hz hd
    have e42 := hd 15 42 (by decide) rfl
    have e0 := hFm.old 0 rfl
    conv at e0 => rhs; whnf
    have e1 := hFm.old 1 rfl
    conv at e1 => rhs; whnf
    have e2 := hFm.old 2 rfl
    conv at e2 => rhs; whnf
    have e3 := hFm.old 3 rfl
    conv at e3 => rhs; whnf
    have e4 := hFm.old 4 rfl
    conv at e4 => rhs; whnf
    have e5 := hFm.old 5 rfl
    conv at e5 => rhs; whnf
    have e6 := hFm.old 6 rfl
    conv at e6 => rhs; whnf
    have e7 := hFm.old 7 rfl
    conv at e7 => rhs; whnf
    have e8 := hFm.old 8 rfl
    conv at e8 => rhs; whnf
    have e9 := hFm.old 9 rfl
    conv at e9 => rhs; whnf
    have e10 := hFm.old 10 rfl
    conv at e10 => rhs; whnf
    have e11 := hFm.old 11 rfl
    conv at e11 => rhs; whnf
    have e12 := hFm.old 12 rfl
    conv at e12 => rhs; whnf
    have e13 := hFm.old 13 rfl
    conv at e13 => rhs; whnf
    have e14 := hFm.old 14 rfl
    conv at e14 => rhs; whnf
    have e15 := hFm.old 15 rfl
    conv at e15 => rhs; whnf
    have e16 := hFm.old 16 rfl
    conv at e16 => rhs; whnf
    have e17 := hFm.old 17 rfl
    conv at e17 => rhs; whnf
    have e18 := hFm.old 18 rfl
    conv at e18 => rhs; whnf
    have e19 := hFm.old 19 rfl
    conv at e19 => rhs; whnf
    have e20 := hFm.old 20 rfl
    conv at e20 => rhs; whnf
    have e21 := hFm.old 21 rfl
    conv at e21 => rhs; whnf
    have e22 := hFm.old 22 rfl
    conv at e22 => rhs; whnf
    have e23 := hFm.old 23 rfl
    conv at e23 => rhs; whnf
    have e24 := hFm.old 24 rfl
    conv at e24 => rhs; whnf
    have e25 := hFm.old 25 rfl
    conv at e25 => rhs; whnf
    have e26 := hFm.old 26 rfl
    conv at e26 => rhs; whnf
    have e43 := hFm.old 43 rfl
    conv at e43 => rhs; whnf
    have e44 := hFm.old 44 rfl
    conv at e44 => rhs; whnf
    have hsz := hFm.size
    have hdf := hFm.defers
    clear hd hFm
    obtain ⟨t, df⟩ := a
    simp only at hsz hdf
    subst hdf
    obtain ⟨x, hx⟩ : ∃ x : Nat → Value, ∀ i, t.getD i undef = x i := ⟨fun i => t.getD i undef, fun _ => rfl⟩
    have h42 := (hx 42).symm.trans e42
    have h0 := (hx 0).symm.trans e0
    have h1 := (hx 1).symm.trans e1
    have h2 := (hx 2).symm.trans e2
    have h3 := (hx 3).symm.trans e3
    have h4 := (hx 4).symm.trans e4
    have h5 := (hx 5).symm.trans e5
    have h6 := (hx 6).symm.trans e6
    have h7 := (hx 7).symm.trans e7
    have h8 := (hx 8).symm.trans e8
    have h9 := (hx 9).symm.trans e9
    have h10 := (hx 10).symm.trans e10
    have h11 := (hx 11).symm.trans e11
    have h12 := (hx 12).symm.trans e12
    have h13 := (hx 13).symm.trans e13
    have h14 := (hx 14).symm.trans e14
    have h15 := (hx 15).symm.trans e15
    have h16 := (hx 16).symm.trans e16
    have h17 := (hx 17).symm.trans e17
    have h18 := (hx 18).symm.trans e18
    have h19 := (hx 19).symm.trans e19
    have h20 := (hx 20).symm.trans e20
    have h21 := (hx 21).symm.trans e21
    have h22 := (hx 22).symm.trans e22
    have h23 := (hx 23).symm.trans e23
    have h24 := (hx 24).symm.trans e24
    have h25 := (hx 25).symm.trans e25
    have h26 := (hx 26).symm.trans e26
    have h43 := (hx 43).symm.trans e43
    have h44 := (hx 44).symm.trans e44
    have ht' : t = #[x 0, x 1, x 2, x 3, x 4, x 5, x 6, x 7, x 8, x 9, x 10, x 11, x 12, x 13, x 14, x 15, x 16, x 17, x 18, x 19, x 20, x 21, x 22, x 23, x 24, x 25, x 26, x 27, x 28, x 29, x 30, x 31, x 32, x 33, x 34, x 35, x 36, x 37, x 38, x 39, x 40, x 41, x 42, x 43, x 44] := frame_lit t 45 hsz x hx
    clear hx hsz hz e42 e0 e1 e2 e3 e4 e5 e6 e7 e8 e9 e10 e11 e12 e13 e14 e15 e16 e17 e18 e19 e20 e21 e22 e23 e24 e25 e26 e43 e44
    subst ht'
    (try dsimp only)
    rw [h42, h0, h1, h2, h3, h4, h5, h6, h7, h8, h9, h10, h11, h12, h13, h14, h15, h16, h17, h18, h19, h20, h21, h22, h23, h24, h25, h26, h43, h44]
    clear h42 h0 h1 h2 h3 h4 h5 h6 h7 h8 h9 h10 h11 h12 h13 h14 h15 h16 h17 h18 h19 h20 h21 h22 h23 h24 h25 h26 h43 h44
    rw [undef_fold]
    have hb := from_drew hS
    replace hB0 := hB0.trans (hb.mono hB0.size)
    replace hC := hC.later hb
    replace hZ := hZ.later hb
    clear hb hS
    have hfz := hZ.frozen
    have hqz := hZ.at
    go_wp2
    exact aright_end zeroF false w w5 none 0 _ rfl hB0 hZ (RowT.empty _ _) (fun x hx => by cases hx) HA.out

set_option maxHeartbeats 1600000 in
theorem rRight_any (c : Cf) (ca : Option Addr) (cc : Nat) (r s : Int) (l : List UInt8) (w : World) (hc : c.Ok) (hrow : Row w ca c.P) (h0 : 0 ≤ r) (h1 : r ≤ 1099511627776) (hl : l.length ≤ 1048576) :
    Calls Tryd.prog 19 #[.agg #[.int .i64 c.N, .int .i64 c.Pi, .int .i64 c.E, .int .i64 c.G, .int .i64 c.F, .slice ca c.P.length cc], .int .i64 r, .int .i64 s, .string ⟨l.toArray⟩] w (RightRet (rightA c r s l) w) := by
  have hB0 : Below w.heap.size w ((w.alloc (.cells #[.int .i64 c.N, .int .i64 c.Pi, .int .i64 c.E, .int .i64 c.G, .int .i64 c.F, .slice ca c.P.length cc] 24)).alloc (.cells #[.int .i64 0, .int .i64 0, .int .i64 0, .int .i64 0, .int .i64 0, .slice none 0 0] 29)) := (alloc_below w _).alloc (by simp) _
  have hC : Blk ((w.alloc (.cells #[.int .i64 c.N, .int .i64 c.Pi, .int .i64 c.E, .int .i64 c.G, .int .i64 c.F, .slice ca c.P.length cc] 24)).alloc (.cells #[.int .i64 0, .int .i64 0, .int .i64 0, .int .i64 0, .int .i64 0, .slice none 0 0] 29)) w.heap.size 24 (confBox c ca cc) := (Blk.new w _ _).alloc _
  have hZ : Blk ((w.alloc (.cells #[.int .i64 c.N, .int .i64 c.Pi, .int .i64 c.E, .int .i64 c.G, .int .i64 c.F, .slice ca c.P.length cc] 24)).alloc (.cells #[.int .i64 0, .int .i64 0, .int .i64 0, .int .i64 0, .int .i64 0, .slice none 0 0] 29)) (w.heap.size + 1) 29 #[.int .i64 0, .int .i64 0, .int .i64 0, .int .i64 0, .int .i64 0, .slice none 0 0] := Blk.newAt _ _ (by simp)
  have HRD := Lib.hid (fun W => rRead_any2 c ca cc l W hc hl)
  have HWi := Lib.hid (fun W => rwire_any c ca cc r W hc h0 h1)
  obtain ⟨f, e0, hfe⟩ : ∃ f e, readF c l = (f, e) := ⟨_, _, rfl⟩
  rw [hfe] at HRD
  have HA := Lib.hid (show rightA c r s l = if e0 = 0 ∧ f.R = wireI c r ∧ f.S = s then (f, true) else (zeroF, false) by unfold rightA; rw [hfe])
  clear hfe
  generalize rightA c r s l = A at *
  generalize wireI c r = wi at *
  go_enter Tryd.func19, Tryd.ntmps19
  go_upto_region 1 with fail
  generalize ((w.alloc (.cells #[.int .i64 c.N, .int .i64 c.Pi, .int .i64 c.E, .int .i64 c.G, .int .i64 c.F, .slice ca c.P.length cc] 24)).alloc (.cells #[.int .i64 0, .int .i64 0, .int .i64 0, .int .i64 0, .int .i64 0, .slice none 0 0] 29)) = w1 at *
  have hq := hC.at
  unfold confBox at hq
  go_wp2_with fail
  refine (HRD.out _).mono ?_
  rintro e w3 ⟨fa, fc, rfl, hrf, hnf, -, hb⟩
  have hzl := hZ.lt
  replace hnf : ∀ x, fa = some x → w.heap.size + 1 < x.block := fun x hx => by have := hnf x hx; omega
  replace hB0 := hB0.trans (hb.mono hB0.size)
  replace hC := hC.later hb
  replace hZ := hZ.later hb
  clear hb hq HRD
  go_upto_region 2 with fail
  have hb := alloc_below w3 (.cells #[.int .i64 f.K, .int .i64 f.R, .int .i64 f.S, .int .i64 f.P.K, .int .i64 f.P.V, .slice fa f.E.length fc] 29)
  have hX : Blk (w3.alloc (.cells #[.int .i64 f.K, .int .i64 f.R, .int .i64 f.S, .int .i64 f.P.K, .int .i64 f.P.V, .slice fa f.E.length fc] 29)) w3.heap.size 29 (frBox f fa fc) := Blk.new w3 _ _
  replace hB0 := hB0.trans (hb.mono hB0.size)
  replace hC := hC.later hb
  replace hZ := hZ.later hb
  replace hrf := hrf.later hb
  clear hb
  generalize w3.alloc (.cells #[.int .i64 f.K, .int .i64 f.R, .int .i64 f.S, .int .i64 f.P.K, .int .i64 f.P.V, .slice fa f.E.length fc] 29) = w4 at *
  generalize w3.heap.size = xb at *
  by_cases he : e0 = 0
  · have d1 : (e0 != 0) = false := by simpa using he
    by_cases hR : f.R = wi
    · have d2 : (f.R != wi) = false := by simpa using hR
      by_cases hS : f.S = s
      · have d3 : (f.S != s) = false := by simpa using hS
        replace HA := Lib.hid (show A = (f, true) by rw [HA.out, if_pos ⟨he, hR, hS⟩])
        clear he hR hS
        refine region_slots [some 18, some 19, some 20, some 21, some 22, some 23, some 24, some 25, some 26, some 27, some 28, some 29, some 30, some 31, some 32, some 33] [none, none, none, none, none, none, none, none, none, none, none, none, none, none, none, none] 36 16 rfl (by kernel_rfl) (by kernel_rfl) rfl rfl ?_
        apply step_fix
        · intro a W Zs hS hFm hz hd
          have h11 := hFm.old 11 rfl
          conv at h11 => rhs; whnf
          replace h11 := ev_get hFm.size h11
          refine .inl ⟨wanted_none rfl _, fun K hK => ?_⟩
          have HK := Lib.hid hK
          clear hd hFm hK
          go_simp
          exact HK.out _ _ rfl (Below.refl _ _)
        simp only [List.nil_append, List.cons_append]
        apply step_fix
        · intro a W Zs hS hFm hz hd
          have h18 := ev_get hFm.size (hd 0 18 rfl rfl)
          refine .inl ⟨wanted_none rfl _, fun K hK => ?_⟩
          have HK := Lib.hid hK
          clear hd hFm hK
          go_simp
          exact HK.out _ _ rfl (Below.refl _ _)
        simp only [List.nil_append, List.cons_append]
        apply step_fix
        · intro a W Zs hS hFm hz hd
          have h19 := ev_get hFm.size (hd 1 19 rfl rfl)
          refine .inl ⟨wanted_none rfl _, fun K hK => ?_⟩
          have HK := Lib.hid hK
          clear hd hFm hK
          go_simp
          exact HK.out _ _ rfl (Below.refl _ _)
        simp only [List.nil_append, List.cons_append]
        apply step_fix
        · intro a W Zs hS hFm hz hd
          have h10 := hFm.old 10 rfl
          conv at h10 => rhs; whnf
          replace h10 := ev_get hFm.size h10
          refine .inl ⟨wanted_at rfl rfl (hd 2 20 rfl rfl), fun K hK => ?_⟩
          have HK := Lib.hid hK
          clear hd hFm hK
          go_simp
          exact HK.out _ _ rfl (Below.refl _ _)
        simp only [List.nil_append, List.cons_append]
        apply step_fix
        · intro a W Zs hS hFm hz hd
          have h21 := ev_get hFm.size (hd 3 21 rfl rfl)
          have hq := (hX.drew1.later hS).at
          unfold frBox at hq
          refine .inl ⟨wanted_at rfl rfl (hd 2 20 rfl rfl), fun K hK => ?_⟩
          have HK := Lib.hid hK
          clear hd hFm hK
          go_simp
          exact HK.out _ _ rfl (Below.refl _ _)
        simp only [List.nil_append, List.cons_append]
        apply step_fix
        · intro a W Zs hS hFm hz hd
          have h4 := hFm.old 4 rfl
          conv at h4 => rhs; whnf
          replace h4 := ev_get hFm.size h4
          have hq := (hC.drew1.later hS).at
          unfold confBox at hq
          refine .inl ⟨wanted_at rfl rfl (hd 2 20 rfl rfl), fun K hK => ?_⟩
          have HK := Lib.hid hK
          clear hd hFm hK
          go_simp
          exact HK.out _ _ rfl (Below.refl _ _)
        simp only [List.nil_append, List.cons_append]
        apply step_fix
        · intro a W Zs hS hFm hz hd
          have h1 := hFm.old 1 rfl
          conv at h1 => rhs; whnf
          replace h1 := ev_get hFm.size h1
          refine .inl ⟨wanted_at rfl rfl (hd 2 20 rfl rfl), fun K hK => ?_⟩
          have HK := Lib.hid hK
          clear hd hFm hK
          go_simp
          exact HK.out _ _ rfl (Below.refl _ _)
        simp only [List.nil_append, List.cons_append]
        apply step_fix
        · intro a W Zs hS hFm hz hd
          have h23 := ev_get hFm.size (hd 5 23 rfl rfl)
          have h24 := ev_get hFm.size (hd 6 24 rfl rfl)
          refine .inl ⟨wanted_at rfl rfl (hd 2 20 rfl rfl), fun K hK => ?_⟩
          have HK := Lib.hid hK
          clear hd hFm hK
          go_simp
          refine (HWi.out _).mono ?_
          rintro e W' ⟨rfl, hb⟩
          exact HK.out _ _ rfl hb
        simp only [List.nil_append, List.cons_append]
        apply step_fix
        · intro a W Zs hS hFm hz hd
          have h22 := ev_get hFm.size (hd 4 22 rfl rfl)
          have h25 := ev_get hFm.size (hd 7 25 rfl rfl)
          refine .inl ⟨wanted_at rfl rfl (hd 2 20 rfl rfl), fun K hK => ?_⟩
          have HK := Lib.hid hK
          clear hd hFm hK
          go_simp
          exact HK.out _ _ rfl (Below.refl _ _)
        simp only [List.nil_append, List.cons_append]
        apply step_fix
        · intro a W Zs hS hFm hz hd
          have h20 := ev_get hFm.size (hd 2 20 rfl rfl)
          have h26 := ev_get hFm.size (hd 8 26 rfl rfl)
          refine .inl ⟨wanted_none rfl _, fun K hK => ?_⟩
          have HK := Lib.hid hK
          clear hd hFm hK
          go_simp
          exact HK.out _ _ rfl (Below.refl _ _)
        simp only [List.nil_append, List.cons_append]
        apply step_fix
        · intro a W Zs hS hFm hz hd
          have h27 := ev_get hFm.size (hd 9 27 rfl rfl)
          refine .inl ⟨wanted_none rfl _, fun K hK => ?_⟩
          have HK := Lib.hid hK
          clear hd hFm hK
          go_simp
          exact HK.out _ _ rfl (Below.refl _ _)
        simp only [List.nil_append, List.cons_append]
        apply step_fix
        · intro a W Zs hS hFm hz hd
          have h10 := hFm.old 10 rfl
          conv at h10 => rhs; whnf
          replace h10 := ev_get hFm.size h10
          refine .inl ⟨wanted_at rfl rfl (hd 10 28 rfl rfl), fun K hK => ?_⟩
          have HK := Lib.hid hK
          clear hd hFm hK
          go_simp
          exact HK.out _ _ rfl (Below.refl _ _)
        simp only [List.nil_append, List.cons_append]
        apply step_fix
        · intro a W Zs hS hFm hz hd
          have h29 := ev_get hFm.size (hd 11 29 rfl rfl)
          have hq := (hX.drew1.later hS).at
          unfold frBox at hq
          refine .inl ⟨wanted_at rfl rfl (hd 10 28 rfl rfl), fun K hK => ?_⟩
          have HK := Lib.hid hK
          clear hd hFm hK
          go_simp
          exact HK.out _ _ rfl (Below.refl _ _)
        simp only [List.nil_append, List.cons_append]
        apply step_fix
        · intro a W Zs hS hFm hz hd
          have h2 := hFm.old 2 rfl
          conv at h2 => rhs; whnf
          replace h2 := ev_get hFm.size h2
          refine .inl ⟨wanted_at rfl rfl (hd 10 28 rfl rfl), fun K hK => ?_⟩
          have HK := Lib.hid hK
          clear hd hFm hK
          go_simp
          exact HK.out _ _ rfl (Below.refl _ _)
        simp only [List.nil_append, List.cons_append]
        apply step_fix
        · intro a W Zs hS hFm hz hd
          have h30 := ev_get hFm.size (hd 12 30 rfl rfl)
          have h31 := ev_get hFm.size (hd 13 31 rfl rfl)
          refine .inl ⟨wanted_at rfl rfl (hd 10 28 rfl rfl), fun K hK => ?_⟩
          have HK := Lib.hid hK
          clear hd hFm hK
          go_simp
          exact HK.out _ _ rfl (Below.refl _ _)
        simp only [List.nil_append, List.cons_append]
        apply step_fix
        · intro a W Zs hS hFm hz hd
          have h28 := ev_get hFm.size (hd 10 28 rfl rfl)
          have h32 := ev_get hFm.size (hd 14 32 rfl rfl)
          refine .inl ⟨wanted_none rfl _, fun K hK => ?_⟩
          have HK := Lib.hid hK
          clear hd hFm hK
          go_simp
          exact HK.out _ _ rfl (Below.refl _ _)
        simp only [List.nil_append, List.cons_append]
        intro a w5 Zs hS hFm hz hd
        have e33 := hd 15 33 (by decide) rfl
        have e0 := hFm.old 0 rfl
        conv at e0 => rhs; whnf
        have e1 := hFm.old 1 rfl
        conv at e1 => rhs; whnf
        have e2 := hFm.old 2 rfl
        conv at e2 => rhs; whnf
        have e3 := hFm.old 3 rfl
        conv at e3 => rhs; whnf
        have e4 := hFm.old 4 rfl
        conv at e4 => rhs; whnf
        have e5 := hFm.old 5 rfl
        conv at e5 => rhs; whnf
        have e6 := hFm.old 6 rfl
        conv at e6 => rhs; whnf
        have e7 := hFm.old 7 rfl
        conv at e7 => rhs; whnf
        have e8 := hFm.old 8 rfl
        conv at e8 => rhs; whnf
        have e9 := hFm.old 9 rfl
        conv at e9 => rhs; whnf
        have e10 := hFm.old 10 rfl
        conv at e10 => rhs; whnf
        have e11 := hFm.old 11 rfl
        conv at e11 => rhs; whnf
        have e12 := hFm.old 12 rfl
        conv at e12 => rhs; whnf
        have e13 := hFm.old 13 rfl
        conv at e13 => rhs; whnf
        have e14 := hFm.old 14 rfl
        conv at e14 => rhs; whnf
        have e15 := hFm.old 15 rfl
        conv at e15 => rhs; whnf
        have e16 := hFm.old 16 rfl
        conv at e16 => rhs; whnf
        have e17 := hFm.old 17 rfl
        conv at e17 => rhs; whnf
        have e34 := hFm.old 34 rfl
        conv at e34 => rhs; whnf
        have e35 := hFm.old 35 rfl
        conv at e35 => rhs; whnf
        have hsz := hFm.size
        have hdf := hFm.defers
        clear hd hFm
        obtain ⟨t, df⟩ := a
        simp only at hsz hdf
        subst hdf
        obtain ⟨x, hx⟩ : ∃ x : Nat → Value, ∀ i, t.getD i undef = x i := ⟨fun i => t.getD i undef, fun _ => rfl⟩
        have h33 := (hx 33).symm.trans e33
        have h0 := (hx 0).symm.trans e0
        have h1 := (hx 1).symm.trans e1
        have h2 := (hx 2).symm.trans e2
        have h3 := (hx 3).symm.trans e3
        have h4 := (hx 4).symm.trans e4
        have h5 := (hx 5).symm.trans e5
        have h6 := (hx 6).symm.trans e6
        have h7 := (hx 7).symm.trans e7
        have h8 := (hx 8).symm.trans e8
        have h9 := (hx 9).symm.trans e9
        have h10 := (hx 10).symm.trans e10
        have h11 := (hx 11).symm.trans e11
        have h12 := (hx 12).symm.trans e12
        have h13 := (hx 13).symm.trans e13
        have h14 := (hx 14).symm.trans e14
        have h15 := (hx 15).symm.trans e15
        have h16 := (hx 16).symm.trans e16
        have h17 := (hx 17).symm.trans e17
        have h34 := (hx 34).symm.trans e34
        have h35 := (hx 35).symm.trans e35
        have ht' : t = #[x 0, x 1, x 2, x 3, x 4, x 5, x 6, x 7, x 8, x 9, x 10, x 11, x 12, x 13, x 14, x 15, x 16, x 17, x 18, x 19, x 20, x 21, x 22, x 23, x 24, x 25, x 26, x 27, x 28, x 29, x 30, x 31, x 32, x 33, x 34, x 35] := frame_lit t 36 hsz x hx
        clear hx hsz hz e33 e0 e1 e2 e3 e4 e5 e6 e7 e8 e9 e10 e11 e12 e13 e14 e15 e16 e17 e34 e35
        subst ht'
        (try dsimp only)
        rw [h33, h0, h1, h2, h3, h4, h5, h6, h7, h8, h9, h10, h11, h12, h13, h14, h15, h16, h17, h34, h35]
        clear h33 h0 h1 h2 h3 h4 h5 h6 h7 h8 h9 h10 h11 h12 h13 h14 h15 h16 h17 h34 h35
        rw [undef_fold]
        have hb := from_drew hS
        replace hB0 := hB0.trans (hb.mono hB0.size)
        replace hC := hC.later hb
        replace hZ := hZ.later hb
        replace hX := hX.later hb
        replace hrf := hrf.later hb
        have hqx := hX.at
        unfold frBox at hqx
        clear hb hS
        have hfz := hZ.frozen
        have hqz := hZ.at
        go_wp2
        exact rright_end f true w w5 fa fc _ rfl hB0 hZ (hrf) (hnf) HA.out
      · have d3 : (f.S != s) = true := by simpa using hS
        replace HA := Lib.hid (show A = (zeroF, false) by rw [HA.out, if_neg (fun q => hS q.2.2)])
        clear he hR hS
        refine region_slots [some 18, some 19, some 20, some 21, some 22, some 23, some 24, some 25, some 26, some 27, some 28, some 29, some 30, some 31, some 32, some 33] [none, none, none, none, none, none, none, none, none, none, none, none, none, none, none, none] 36 16 rfl (by kernel_rfl) (by kernel_rfl) rfl rfl ?_
        apply step_fix
        · intro a W Zs hS hFm hz hd
          have h11 := hFm.old 11 rfl
          conv at h11 => rhs; whnf
          replace h11 := ev_get hFm.size h11
          refine .inl ⟨wanted_none rfl _, fun K hK => ?_⟩
          have HK := Lib.hid hK
          clear hd hFm hK
          go_simp
          exact HK.out _ _ rfl (Below.refl _ _)
        simp only [List.nil_append, List.cons_append]
        apply step_fix
        · intro a W Zs hS hFm hz hd
          have h18 := ev_get hFm.size (hd 0 18 rfl rfl)
          refine .inl ⟨wanted_none rfl _, fun K hK => ?_⟩
          have HK := Lib.hid hK
          clear hd hFm hK
          go_simp
          exact HK.out _ _ rfl (Below.refl _ _)
        simp only [List.nil_append, List.cons_append]
        apply step_fix
        · intro a W Zs hS hFm hz hd
          have h19 := ev_get hFm.size (hd 1 19 rfl rfl)
          refine .inl ⟨wanted_none rfl _, fun K hK => ?_⟩
          have HK := Lib.hid hK
          clear hd hFm hK
          go_simp
          exact HK.out _ _ rfl (Below.refl _ _)
        simp only [List.nil_append, List.cons_append]
        apply step_fix
        · intro a W Zs hS hFm hz hd
          have h10 := hFm.old 10 rfl
          conv at h10 => rhs; whnf
          replace h10 := ev_get hFm.size h10
          refine .inl ⟨wanted_at rfl rfl (hd 2 20 rfl rfl), fun K hK => ?_⟩
          have HK := Lib.hid hK
          clear hd hFm hK
          go_simp
          exact HK.out _ _ rfl (Below.refl _ _)
        simp only [List.nil_append, List.cons_append]
        apply step_fix
        · intro a W Zs hS hFm hz hd
          have h21 := ev_get hFm.size (hd 3 21 rfl rfl)
          have hq := (hX.drew1.later hS).at
          unfold frBox at hq
          refine .inl ⟨wanted_at rfl rfl (hd 2 20 rfl rfl), fun K hK => ?_⟩
          have HK := Lib.hid hK
          clear hd hFm hK
          go_simp
          exact HK.out _ _ rfl (Below.refl _ _)
        simp only [List.nil_append, List.cons_append]
        apply step_fix
        · intro a W Zs hS hFm hz hd
          have h4 := hFm.old 4 rfl
          conv at h4 => rhs; whnf
          replace h4 := ev_get hFm.size h4
          have hq := (hC.drew1.later hS).at
          unfold confBox at hq
          refine .inl ⟨wanted_at rfl rfl (hd 2 20 rfl rfl), fun K hK => ?_⟩
          have HK := Lib.hid hK
          clear hd hFm hK
          go_simp
          exact HK.out _ _ rfl (Below.refl _ _)
        simp only [List.nil_append, List.cons_append]
        apply step_fix
        · intro a W Zs hS hFm hz hd
          have h1 := hFm.old 1 rfl
          conv at h1 => rhs; whnf
          replace h1 := ev_get hFm.size h1
          refine .inl ⟨wanted_at rfl rfl (hd 2 20 rfl rfl), fun K hK => ?_⟩
          have HK := Lib.hid hK
          clear hd hFm hK
          go_simp
          exact HK.out _ _ rfl (Below.refl _ _)
        simp only [List.nil_append, List.cons_append]
        apply step_fix
        · intro a W Zs hS hFm hz hd
          have h23 := ev_get hFm.size (hd 5 23 rfl rfl)
          have h24 := ev_get hFm.size (hd 6 24 rfl rfl)
          refine .inl ⟨wanted_at rfl rfl (hd 2 20 rfl rfl), fun K hK => ?_⟩
          have HK := Lib.hid hK
          clear hd hFm hK
          go_simp
          refine (HWi.out _).mono ?_
          rintro e W' ⟨rfl, hb⟩
          exact HK.out _ _ rfl hb
        simp only [List.nil_append, List.cons_append]
        apply step_fix
        · intro a W Zs hS hFm hz hd
          have h22 := ev_get hFm.size (hd 4 22 rfl rfl)
          have h25 := ev_get hFm.size (hd 7 25 rfl rfl)
          refine .inl ⟨wanted_at rfl rfl (hd 2 20 rfl rfl), fun K hK => ?_⟩
          have HK := Lib.hid hK
          clear hd hFm hK
          go_simp
          exact HK.out _ _ rfl (Below.refl _ _)
        simp only [List.nil_append, List.cons_append]
        apply step_fix
        · intro a W Zs hS hFm hz hd
          have h20 := ev_get hFm.size (hd 2 20 rfl rfl)
          have h26 := ev_get hFm.size (hd 8 26 rfl rfl)
          refine .inl ⟨wanted_none rfl _, fun K hK => ?_⟩
          have HK := Lib.hid hK
          clear hd hFm hK
          go_simp
          exact HK.out _ _ rfl (Below.refl _ _)
        simp only [List.nil_append, List.cons_append]
        apply step_fix
        · intro a W Zs hS hFm hz hd
          have h27 := ev_get hFm.size (hd 9 27 rfl rfl)
          refine .inl ⟨wanted_none rfl _, fun K hK => ?_⟩
          have HK := Lib.hid hK
          clear hd hFm hK
          go_simp
          exact HK.out _ _ rfl (Below.refl _ _)
        simp only [List.nil_append, List.cons_append]
        apply step_fix
        · intro a W Zs hS hFm hz hd
          have h10 := hFm.old 10 rfl
          conv at h10 => rhs; whnf
          replace h10 := ev_get hFm.size h10
          refine .inl ⟨wanted_at rfl rfl (hd 10 28 rfl rfl), fun K hK => ?_⟩
          have HK := Lib.hid hK
          clear hd hFm hK
          go_simp
          exact HK.out _ _ rfl (Below.refl _ _)
        simp only [List.nil_append, List.cons_append]
        apply step_fix
        · intro a W Zs hS hFm hz hd
          have h29 := ev_get hFm.size (hd 11 29 rfl rfl)
          have hq := (hX.drew1.later hS).at
          unfold frBox at hq
          refine .inl ⟨wanted_at rfl rfl (hd 10 28 rfl rfl), fun K hK => ?_⟩
          have HK := Lib.hid hK
          clear hd hFm hK
          go_simp
          exact HK.out _ _ rfl (Below.refl _ _)
        simp only [List.nil_append, List.cons_append]
        apply step_fix
        · intro a W Zs hS hFm hz hd
          have h2 := hFm.old 2 rfl
          conv at h2 => rhs; whnf
          replace h2 := ev_get hFm.size h2
          refine .inl ⟨wanted_at rfl rfl (hd 10 28 rfl rfl), fun K hK => ?_⟩
          have HK := Lib.hid hK
          clear hd hFm hK
          go_simp
          exact HK.out _ _ rfl (Below.refl _ _)
        simp only [List.nil_append, List.cons_append]
        apply step_fix
        · intro a W Zs hS hFm hz hd
          have h30 := ev_get hFm.size (hd 12 30 rfl rfl)
          have h31 := ev_get hFm.size (hd 13 31 rfl rfl)
          refine .inl ⟨wanted_at rfl rfl (hd 10 28 rfl rfl), fun K hK => ?_⟩
          have HK := Lib.hid hK
          clear hd hFm hK
          go_simp
          exact HK.out _ _ rfl (Below.refl _ _)
        simp only [List.nil_append, List.cons_append]
        apply step_fix
        · intro a W Zs hS hFm hz hd
          have h28 := ev_get hFm.size (hd 10 28 rfl rfl)
          have h32 := ev_get hFm.size (hd 14 32 rfl rfl)
          refine .inl ⟨wanted_none rfl _, fun K hK => ?_⟩
          have HK := Lib.hid hK
          clear hd hFm hK
          go_simp
          exact HK.out _ _ rfl (Below.refl _ _)
        simp only [List.nil_append, List.cons_append]
        intro a w5 Zs hS hFm hz hd
        have e33 := hd 15 33 (by decide) rfl
        have e0 := hFm.old 0 rfl
        conv at e0 => rhs; whnf
        have e1 := hFm.old 1 rfl
        conv at e1 => rhs; whnf
        have e2 := hFm.old 2 rfl
        conv at e2 => rhs; whnf
        have e3 := hFm.old 3 rfl
        conv at e3 => rhs; whnf
        have e4 := hFm.old 4 rfl
        conv at e4 => rhs; whnf
        have e5 := hFm.old 5 rfl
        conv at e5 => rhs; whnf
        have e6 := hFm.old 6 rfl
        conv at e6 => rhs; whnf
        have e7 := hFm.old 7 rfl
        conv at e7 => rhs; whnf
        have e8 := hFm.old 8 rfl
        conv at e8 => rhs; whnf
        have e9 := hFm.old 9 rfl
        conv at e9 => rhs; whnf
        have e10 := hFm.old 10 rfl
        conv at e10 => rhs; whnf
        have e11 := hFm.old 11 rfl
        conv at e11 => rhs; whnf
        have e12 := hFm.old 12 rfl
        conv at e12 => rhs; whnf
        have e13 := hFm.old 13 rfl
        conv at e13 => rhs; whnf
        have e14 := hFm.old 14 rfl
        conv at e14 => rhs; whnf
        have e15 := hFm.old 15 rfl
        conv at e15 => rhs; whnf
        have e16 := hFm.old 16 rfl
        conv at e16 => rhs; whnf
        have e17 := hFm.old 17 rfl
        conv at e17 => rhs; whnf
        have e34 := hFm.old 34 rfl
        conv at e34 => rhs; whnf
        have e35 := hFm.old 35 rfl
        conv at e35 => rhs; whnf
        have hsz := hFm.size
        have hdf := hFm.defers
        clear hd hFm
        obtain ⟨t, df⟩ := a
        simp only at hsz hdf
        subst hdf
        obtain ⟨x, hx⟩ : ∃ x : Nat → Value, ∀ i, t.getD i undef = x i := ⟨fun i => t.getD i undef, fun _ => rfl⟩
        have h33 := (hx 33).symm.trans e33
        have h0 := (hx 0).symm.trans e0
        have h1 := (hx 1).symm.trans e1
        have h2 := (hx 2).symm.trans e2
        have h3 := (hx 3).symm.trans e3
        have h4 := (hx 4).symm.trans e4
        have h5 := (hx 5).symm.trans e5
        have h6 := (hx 6).symm.trans e6
        have h7 := (hx 7).symm.trans e7
        have h8 := (hx 8).symm.trans e8
        have h9 := (hx 9).symm.trans e9
        have h10 := (hx 10).symm.trans e10
        have h11 := (hx 11).symm.trans e11
        have h12 := (hx 12).symm.trans e12
        have h13 := (hx 13).symm.trans e13
        have h14 := (hx 14).symm.trans e14
        have h15 := (hx 15).symm.trans e15
        have h16 := (hx 16).symm.trans e16
        have h17 := (hx 17).symm.trans e17
        have h34 := (hx 34).symm.trans e34
        have h35 := (hx 35).symm.trans e35
        have ht' : t = #[x 0, x 1, x 2, x 3, x 4, x 5, x 6, x 7, x 8, x 9, x 10, x 11, x 12, x 13, x 14, x 15, x 16, x 17, x 18, x 19, x 20, x 21, x 22, x 23, x 24, x 25, x 26, x 27, x 28, x 29, x 30, x 31, x 32, x 33, x 34, x 35] := frame_lit t 36 hsz x hx
        clear hx hsz hz e33 e0 e1 e2 e3 e4 e5 e6 e7 e8 e9 e10 e11 e12 e13 e14 e15 e16 e17 e34 e35
        subst ht'
        (try dsimp only)
        rw [h33, h0, h1, h2, h3, h4, h5, h6, h7, h8, h9, h10, h11, h12, h13, h14, h15, h16, h17, h34, h35]
        clear h33 h0 h1 h2 h3 h4 h5 h6 h7 h8 h9 h10 h11 h12 h13 h14 h15 h16 h17 h34 h35
        rw [undef_fold]
        have hb := from_drew hS
        replace hB0 := hB0.trans (hb.mono hB0.size)
        replace hC := hC.later hb
        replace hZ := hZ.later hb
        clear hb hS
        have hfz := hZ.frozen
        have hqz := hZ.at
        go_wp2
        exact rright_end zeroF false w w5 none 0 _ rfl hB0 hZ (RowT.empty _ _) (fun x hx => by cases hx) HA.out
    · have d2 : (f.R != wi) = true := by simpa using hR
      replace HA := Lib.hid (show A = (zeroF, false) by rw [HA.out, if_neg (fun q => hR q.2.1)])
      clear he hR
      refine region_slots [some 18, some 19, some 20, some 21, some 22, some 23, some 24, some 25, some 26, some 27, some 28, some 29, some 30, some 31, some 32, some 33] [none, none, none, none, none, none, none, none, none, none, none, none, none, none, none, none] 36 16 rfl (by kernel_rfl) (by kernel_rfl) rfl rfl ?_
      apply step_fix
      · intro a W Zs hS hFm hz hd
        have h11 := hFm.old 11 rfl
        conv at h11 => rhs; whnf
        replace h11 := ev_get hFm.size h11
        refine .inl ⟨wanted_none rfl _, fun K hK => ?_⟩
        have HK := Lib.hid hK
        clear hd hFm hK
        go_simp
        exact HK.out _ _ rfl (Below.refl _ _)
      simp only [List.nil_append, List.cons_append]
      apply step_fix
      · intro a W Zs hS hFm hz hd
        have h18 := ev_get hFm.size (hd 0 18 rfl rfl)
        refine .inl ⟨wanted_none rfl _, fun K hK => ?_⟩
        have HK := Lib.hid hK
        clear hd hFm hK
        go_simp
        exact HK.out _ _ rfl (Below.refl _ _)
      simp only [List.nil_append, List.cons_append]
      apply step_fix
      · intro a W Zs hS hFm hz hd
        have h19 := ev_get hFm.size (hd 1 19 rfl rfl)
        refine .inl ⟨wanted_none rfl _, fun K hK => ?_⟩
        have HK := Lib.hid hK
        clear hd hFm hK
        go_simp
        exact HK.out _ _ rfl (Below.refl _ _)
      simp only [List.nil_append, List.cons_append]
      apply step_fix
      · intro a W Zs hS hFm hz hd
        have h10 := hFm.old 10 rfl
        conv at h10 => rhs; whnf
        replace h10 := ev_get hFm.size h10
        refine .inl ⟨wanted_at rfl rfl (hd 2 20 rfl rfl), fun K hK => ?_⟩
        have HK := Lib.hid hK
        clear hd hFm hK
        go_simp
        exact HK.out _ _ rfl (Below.refl _ _)
      simp only [List.nil_append, List.cons_append]
      apply step_fix
      · intro a W Zs hS hFm hz hd
        have h21 := ev_get hFm.size (hd 3 21 rfl rfl)
        have hq := (hX.drew1.later hS).at
        unfold frBox at hq
        refine .inl ⟨wanted_at rfl rfl (hd 2 20 rfl rfl), fun K hK => ?_⟩
        have HK := Lib.hid hK
        clear hd hFm hK
        go_simp
        exact HK.out _ _ rfl (Below.refl _ _)
      simp only [List.nil_append, List.cons_append]
      apply step_fix
      · intro a W Zs hS hFm hz hd
        have h4 := hFm.old 4 rfl
        conv at h4 => rhs; whnf
        replace h4 := ev_get hFm.size h4
        have hq := (hC.drew1.later hS).at
        unfold confBox at hq
        refine .inl ⟨wanted_at rfl rfl (hd 2 20 rfl rfl), fun K hK => ?_⟩
        have HK := Lib.hid hK
        clear hd hFm hK
        go_simp
        exact HK.out _ _ rfl (Below.refl _ _)
      simp only [List.nil_append, List.cons_append]
      apply step_fix
      · intro a W Zs hS hFm hz hd
        have h1 := hFm.old 1 rfl
        conv at h1 => rhs; whnf
        replace h1 := ev_get hFm.size h1
        refine .inl ⟨wanted_at rfl rfl (hd 2 20 rfl rfl), fun K hK => ?_⟩
        have HK := Lib.hid hK
        clear hd hFm hK
        go_simp
        exact HK.out _ _ rfl (Below.refl _ _)
      simp only [List.nil_append, List.cons_append]
      apply step_fix
      · intro a W Zs hS hFm hz hd
        have h23 := ev_get hFm.size (hd 5 23 rfl rfl)
        have h24 := ev_get hFm.size (hd 6 24 rfl rfl)
        refine .inl ⟨wanted_at rfl rfl (hd 2 20 rfl rfl), fun K hK => ?_⟩
        have HK := Lib.hid hK
        clear hd hFm hK
        go_simp
        refine (HWi.out _).mono ?_
        rintro e W' ⟨rfl, hb⟩
        exact HK.out _ _ rfl hb
      simp only [List.nil_append, List.cons_append]
      apply step_fix
      · intro a W Zs hS hFm hz hd
        have h22 := ev_get hFm.size (hd 4 22 rfl rfl)
        have h25 := ev_get hFm.size (hd 7 25 rfl rfl)
        refine .inl ⟨wanted_at rfl rfl (hd 2 20 rfl rfl), fun K hK => ?_⟩
        have HK := Lib.hid hK
        clear hd hFm hK
        go_simp
        exact HK.out _ _ rfl (Below.refl _ _)
      simp only [List.nil_append, List.cons_append]
      apply step_fix
      · intro a W Zs hS hFm hz hd
        have h20 := ev_get hFm.size (hd 2 20 rfl rfl)
        have h26 := ev_get hFm.size (hd 8 26 rfl rfl)
        refine .inl ⟨wanted_none rfl _, fun K hK => ?_⟩
        have HK := Lib.hid hK
        clear hd hFm hK
        go_simp
        exact HK.out _ _ rfl (Below.refl _ _)
      simp only [List.nil_append, List.cons_append]
      apply step_fix
      · intro a W Zs hS hFm hz hd
        have h27 := ev_get hFm.size (hd 9 27 rfl rfl)
        refine .inl ⟨wanted_none rfl _, fun K hK => ?_⟩
        have HK := Lib.hid hK
        clear hd hFm hK
        go_simp
        exact HK.out _ _ rfl (Below.refl _ _)
      simp only [List.nil_append, List.cons_append]
      apply step_fix
      · intro a W Zs hS hFm hz hd
        exact .inr ⟨wanted_not rfl rfl (hd 10 28 rfl rfl), rfl⟩
      simp only [List.nil_append, List.cons_append]
      apply step_fix
      · intro a W Zs hS hFm hz hd
        exact .inr ⟨wanted_not rfl rfl (hd 10 28 rfl rfl), rfl⟩
      simp only [List.nil_append, List.cons_append]
      apply step_fix
      · intro a W Zs hS hFm hz hd
        exact .inr ⟨wanted_not rfl rfl (hd 10 28 rfl rfl), rfl⟩
      simp only [List.nil_append, List.cons_append]
      apply step_fix
      · intro a W Zs hS hFm hz hd
        exact .inr ⟨wanted_not rfl rfl (hd 10 28 rfl rfl), rfl⟩
      simp only [List.nil_append, List.cons_append]
      apply step_fix
      · intro a W Zs hS hFm hz hd
        have h28 := ev_get hFm.size (hd 10 28 rfl rfl)
        have h32 := ev_get hFm.size (hd 14 32 rfl rfl)
        refine .inl ⟨wanted_none rfl _, fun K hK => ?_⟩
        have HK := Lib.hid hK
        clear hd hFm hK
        go_simp
        exact HK.out _ _ rfl (Below.refl _ _)
      simp only [List.nil_append, List.cons_append]
      intro a w5 Zs hS hFm hz hd
      have e33 := hd 15 33 (by decide) rfl
      have e0 := hFm.old 0 rfl
      conv at e0 => rhs; whnf
      have e1 := hFm.old 1 rfl
      conv at e1 => rhs; whnf
      have e2 := hFm.old 2 rfl
      conv at e2 => rhs; whnf
      have e3 := hFm.old 3 rfl
      conv at e3 => rhs; whnf
      have e4 := hFm.old 4 rfl
      conv at e4 => rhs; whnf
      have e5 := hFm.old 5 rfl
      conv at e5 => rhs; whnf
      have e6 := hFm.old 6 rfl
      conv at e6 => rhs; whnf
      have e7 := hFm.old 7 rfl
      conv at e7 => rhs; whnf
      have e8 := hFm.old 8 rfl
      conv at e8 => rhs; whnf
      have e9 := hFm.old 9 rfl
      conv at e9 => rhs; whnf
      have e10 := hFm.old 10 rfl
      conv at e10 => rhs; whnf
      have e11 := hFm.old 11 rfl
      conv at e11 => rhs; whnf
      have e12 := hFm.old 12 rfl
      conv at e12 => rhs; whnf
      have e13 := hFm.old 13 rfl
      conv at e13 => rhs; whnf
      have e14 := hFm.old 14 rfl
      conv at e14 => rhs; whnf
      have e15 := hFm.old 15 rfl
      conv at e15 => rhs; whnf
      have e16 := hFm.old 16 rfl
      conv at e16 => rhs; whnf
      have e17 := hFm.old 17 rfl
      conv at e17 => rhs; whnf
      have e34 := hFm.old 34 rfl
      conv at e34 => rhs; whnf
      have e35 := hFm.old 35 rfl
      conv at e35 => rhs; whnf
      have hsz := hFm.size
      have hdf := hFm.defers
      clear hd hFm
      obtain ⟨t, df⟩ := a
      simp only at hsz hdf
      subst hdf
      obtain ⟨x, hx⟩ : ∃ x : Nat → Value, ∀ i, t.getD i undef = x i := ⟨fun i => t.getD i undef, fun _ => rfl⟩
      have h33 := (hx 33).symm.trans e33
      have h0 := (hx 0).symm.trans e0
      have h1 := (hx 1).symm.trans e1
      have h2 := (hx 2).symm.trans e2
      have h3 := (hx 3).symm.trans e3
      have h4 := (hx 4).symm.trans e4
      have h5 := (hx 5).symm.trans e5
      have h6 := (hx 6).symm.trans e6
      have h7 := (hx 7).symm.trans e7
      have h8 := (hx 8).symm.trans e8
      have h9 := (hx 9).symm.trans e9
      have h10 := (hx 10).symm.trans e10
      have h11 := (hx 11).symm.trans e11
      have h12 := (hx 12).symm.trans e12
      have h13 := (hx 13).symm.trans e13
      have h14 := (hx 14).symm.trans e14
      have h15 := (hx 15).symm.trans e15
      have h16 := (hx 16).symm.trans e16
      have h17 := (hx 17).symm.trans e17
      have h34 := (hx 34).symm.trans e34
      have h35 := (hx 35).symm.trans e35
      have ht' : t = #[x 0, x 1, x 2, x 3, x 4, x 5, x 6, x 7, x 8, x 9, x 10, x 11, x 12, x 13, x 14, x 15, x 16, x 17, x 18, x 19, x 20, x 21, x 22, x 23, x 24, x 25, x 26, x 27, x 28, x 29, x 30, x 31, x 32, x 33, x 34, x 35] := frame_lit t 36 hsz x hx
      clear hx hsz hz e33 e0 e1 e2 e3 e4 e5 e6 e7 e8 e9 e10 e11 e12 e13 e14 e15 e16 e17 e34 e35
      subst ht'
      (try dsimp only)
      rw [h33, h0, h1, h2, h3, h4, h5, h6, h7, h8, h9, h10, h11, h12, h13, h14, h15, h16, h17, h34, h35]
      clear h33 h0 h1 h2 h3 h4 h5 h6 h7 h8 h9 h10 h11 h12 h13 h14 h15 h16 h17 h34 h35
      rw [undef_fold]
      have hb := from_drew hS
      replace hB0 := hB0.trans (hb.mono hB0.size)
      replace hC := hC.later hb
      replace hZ := hZ.later hb
      clear hb hS
      have hfz := hZ.frozen
      have hqz := hZ.at
      go_wp2
      exact rright_end zeroF false w w5 none 0 _ rfl hB0 hZ (RowT.empty _ _) (fun x hx => by cases hx) HA.out
  · have d1 : (e0 != 0) = true := by simpa using he
    replace HA := Lib.hid (show A = (zeroF, false) by rw [HA.out, if_neg (fun q => he q.1)])
    clear he
    refine region_slots [some 18, some 19, some 20, some 21, some 22, some 23, some 24, some 25, some 26, some 27, some 28, some 29, some 30, some 31, some 32, some 33] [none, none, none, none, none, none, none, none, none, none, none, none, none, none, none, none] 36 16 rfl (by kernel_rfl) (by kernel_rfl) rfl rfl ?_
    apply step_fix
    · intro a W Zs hS hFm hz hd
      have h11 := hFm.old 11 rfl
      conv at h11 => rhs; whnf
      replace h11 := ev_get hFm.size h11
      refine .inl ⟨wanted_none rfl _, fun K hK => ?_⟩
      have HK := Lib.hid hK
      clear hd hFm hK
      go_simp
      exact HK.out _ _ rfl (Below.refl _ _)
    simp only [List.nil_append, List.cons_append]
    apply step_fix
    · intro a W Zs hS hFm hz hd
      have h18 := ev_get hFm.size (hd 0 18 rfl rfl)
      refine .inl ⟨wanted_none rfl _, fun K hK => ?_⟩
      have HK := Lib.hid hK
      clear hd hFm hK
      go_simp
      exact HK.out _ _ rfl (Below.refl _ _)
    simp only [List.nil_append, List.cons_append]
    apply step_fix
    · intro a W Zs hS hFm hz hd
      have h19 := ev_get hFm.size (hd 1 19 rfl rfl)
      refine .inl ⟨wanted_none rfl _, fun K hK => ?_⟩
      have HK := Lib.hid hK
      clear hd hFm hK
      go_simp
      exact HK.out _ _ rfl (Below.refl _ _)
    simp only [List.nil_append, List.cons_append]
    apply step_fix
    · intro a W Zs hS hFm hz hd
      exact .inr ⟨wanted_not rfl rfl (hd 2 20 rfl rfl), rfl⟩
    simp only [List.nil_append, List.cons_append]
    apply step_fix
    · intro a W Zs hS hFm hz hd
      exact .inr ⟨wanted_not rfl rfl (hd 2 20 rfl rfl), rfl⟩
    simp only [List.nil_append, List.cons_append]
    apply step_fix
    · intro a W Zs hS hFm hz hd
      exact .inr ⟨wanted_not rfl rfl (hd 2 20 rfl rfl), rfl⟩
    simp only [List.nil_append, List.cons_append]
    apply step_fix
    · intro a W Zs hS hFm hz hd
      exact .inr ⟨wanted_not rfl rfl (hd 2 20 rfl rfl), rfl⟩
    simp only [List.nil_append, List.cons_append]
    apply step_fix
    · intro a W Zs hS hFm hz hd
      exact .inr ⟨wanted_not rfl rfl (hd 2 20 rfl rfl), rfl⟩
    simp only [List.nil_append, List.cons_append]
    apply step_fix
    · intro a W Zs hS hFm hz hd
      exact .inr ⟨wanted_not rfl rfl (hd 2 20 rfl rfl), rfl⟩
    simp only [List.nil_append, List.cons_append]
    apply step_fix
    · intro a W Zs hS hFm hz hd
      have h20 := ev_get hFm.size (hd 2 20 rfl rfl)
      have h26 := ev_get hFm.size (hd 8 26 rfl rfl)
      refine .inl ⟨wanted_none rfl _, fun K hK => ?_⟩
      have HK := Lib.hid hK
      clear hd hFm hK
      go_simp
      exact HK.out _ _ rfl (Below.refl _ _)
    simp only [List.nil_append, List.cons_append]
    apply step_fix
    · intro a W Zs hS hFm hz hd
      have h27 := ev_get hFm.size (hd 9 27 rfl rfl)
      refine .inl ⟨wanted_none rfl _, fun K hK => ?_⟩
      have HK := Lib.hid hK
      clear hd hFm hK
      go_simp
      exact HK.out _ _ rfl (Below.refl _ _)
    simp only [List.nil_append, List.cons_append]
    apply step_fix
    · intro a W Zs hS hFm hz hd
      exact .inr ⟨wanted_not rfl rfl (hd 10 28 rfl rfl), rfl⟩
    simp only [List.nil_append, List.cons_append]
    apply step_fix
    · intro a W Zs hS hFm hz hd
      exact .inr ⟨wanted_not rfl rfl (hd 10 28 rfl rfl), rfl⟩
    simp only [List.nil_append, List.cons_append]
    apply step_fix
    · intro a W Zs hS hFm hz hd
      exact .inr ⟨wanted_not rfl rfl (hd 10 28 rfl rfl), rfl⟩
    simp only [List.nil_append, List.cons_append]
    apply step_fix
    · intro a W Zs hS hFm hz hd
      exact .inr ⟨wanted_not rfl rfl (hd 10 28 rfl rfl), rfl⟩
    simp only [List.nil_append, List.cons_append]
    apply step_fix
    · intro a W Zs hS hFm hz hd
      have h28 := ev_get hFm.size (hd 10 28 rfl rfl)
      have h32 := ev_get hFm.size (hd 14 32 rfl rfl)
      refine .inl ⟨wanted_none rfl _, fun K hK => ?_⟩
      have HK := Lib.hid hK
      clear hd hFm hK
      go_simp
      exact HK.out _ _ rfl (Below.refl _ _)
    simp only [List.nil_append, List.cons_append]
    intro a w5 Zs hS hFm hz hd
    have e33 := hd 15 33 (by decide) rfl
    have e0 := hFm.old 0 rfl
    conv at e0 => rhs; whnf
    have e1 := hFm.old 1 rfl
    conv at e1 => rhs; whnf
    have e2 := hFm.old 2 rfl
    conv at e2 => rhs; whnf
    have e3 := hFm.old 3 rfl
    conv at e3 => rhs; whnf
    have e4 := hFm.old 4 rfl
    conv at e4 => rhs; whnf
    have e5 := hFm.old 5 rfl
    conv at e5 => rhs; whnf
    have e6 := hFm.old 6 rfl
    conv at e6 => rhs; whnf
    have e7 := hFm.old 7 rfl
    conv at e7 => rhs; whnf
    have e8 := hFm.old 8 rfl
    conv at e8 => rhs; whnf
    have e9 := hFm.old 9 rfl
    conv at e9 => rhs; whnf
    have e10 := hFm.old 10 rfl
    conv at e10 => rhs; whnf
    have e11 := hFm.old 11 rfl
    conv at e11 => rhs; whnf
    have e12 := hFm.old 12 rfl
    conv at e12 => rhs; whnf
    have e13 := hFm.old 13 rfl
    conv at e13 => rhs; whnf
    have e14 := hFm.old 14 rfl
    conv at e14 => rhs; whnf
    have e15 := hFm.old 15 rfl
    conv at e15 => rhs; whnf
    have e16 := hFm.old 16 rfl
    conv at e16 => rhs; whnf
    have e17 := hFm.old 17 rfl
    conv at e17 => rhs; whnf
    have e34 := hFm.old 34 rfl
    conv at e34 => rhs; whnf
    have e35 := hFm.old 35 rfl
    conv at e35 => rhs; whnf
    have hsz := hFm.size
    have hdf := hFm.defers
    clear hd hFm
    obtain ⟨t, df⟩ := a
    simp only at hsz hdf
    subst hdf
    obtain ⟨x, hx⟩ : ∃ x : Nat → Value, ∀ i, t.getD i undef = x i := ⟨fun i => t.getD i undef, fun _ => rfl⟩
    have h33 := (hx 33).symm.trans e33
    have h0 := (hx 0).symm.trans e0
    have h1 := (hx 1).symm.trans e1
    have h2 := (hx 2).symm.trans e2
    have h3 := (hx 3).symm.trans e3
    have h4 := (hx 4).symm.trans e4
    have h5 := (hx 5).symm.trans e5
    have h6 := (hx 6).symm.trans e6
    have h7 := (hx 7).symm.trans e7
    have h8 := (hx 8).symm.trans e8
    have h9 := (hx 9).symm.trans e9
    have h10 := (hx 10).symm.trans e10
    have h11 := (hx 11).symm.trans e11
    have h12 := (hx 12).symm.trans e12
    have h13 := (hx 13).symm.trans e13
    have h14 := (hx 14).symm.trans e14
    have h15 := (hx 15).symm.trans e15
    have h16 := (hx 16).symm.trans e16
    have h17 := (hx 17).symm.trans e17
    have h34 := (hx 34).symm.trans e34
    have h35 := (hx 35).symm.trans e35
    have ht' : t = #[x 0, x 1, x 2, x 3, x 4, x 5, x 6, x 7, x 8, x 9, x 10, x 11, x 12, x 13, x 14, x 15, x 16, x 17, x 18, x 19, x 20, x 21, x 22, x 23, x 24, x 25, x 26, x 27, x 28, x 29, x 30, x 31, x 32, x 33, x 34, x 35] := frame_lit t 36 hsz x hx
    clear hx hsz hz e33 e0 e1 e2 e3 e4 e5 e6 e7 e8 e9 e10 e11 e12 e13 e14 e15 e16 e17 e34 e35
    subst ht'
    (try dsimp only)
    rw [h33, h0, h1, h2, h3, h4, h5, h6, h7, h8, h9, h10, h11, h12, h13, h14, h15, h16, h17, h34, h35]
    clear h33 h0 h1 h2 h3 h4 h5 h6 h7 h8 h9 h10 h11 h12 h13 h14 h15 h16 h17 h34 h35
    rw [undef_fold]
    have hb := from_drew hS
    replace hB0 := hB0.trans (hb.mono hB0.size)
    replace hC := hC.later hb
    replace hZ := hZ.later hb
    clear hb hS
    have hfz := hZ.frozen
    have hqz := hZ.at
    go_wp2
    exact rright_end zeroF false w w5 none 0 _ rfl hB0 hZ (RowT.empty _ _) (fun x hx => by cases hx) HA.out

end Go.Proofs.YtkflijbhlibadabDoor

/-
  plaitinglaw6's Make.
-/
import Derived.Test.YthhmedlefahccaaGreatDoorK15
import Derived.Test.YthhmedlefahccaaGreatDoorK5
import Derived.Laws.Tables
import Derived.Laws.Rows
namespace Go.Proofs.YthhmedlefahccaaGreatDoor
open Go.RowKit Plait
set_option maxRecDepth 100000
set_option linter.unusedVariables false
set_option linter.unusedSimpArgs false

/-- What a call answers that makes a locus. -/
def FaRet (f : Fa) (w : World) (e : Ending) (w' : World) : Prop :=
  ∃ (a : Option Addr) (ac : Nat) (d : Option Addr) (dc : Nat), e = .returned (.agg #[.int .i64 f.K, .int .i64 f.At, .int .i64 f.F, .int .i64 f.To, .slice a f.A.length ac, .slice d f.D.length dc]) ∧ RowA w' a f.A ∧ Row w' d f.D ∧ (∀ x, a = some x → w.heap.size ≤ x.block) ∧ (∀ x, d = some x → w.heap.size ≤ x.block) ∧ Below w.heap.size w w'

def zeroL : Array Value := #[.int .i64 0, .int .i64 0, .int .i64 0, .int .i64 0, .slice none 0 0, .slice none 0 0]
def MakeB (K At F To : Int) (v u : Value) : Array Value := #[.int .i64 K, .int .i64 At, .int .i64 F, .int .i64 To, v, u]

theorem Row.far3 {w : World} {a : Option Addr} {zs : List Int} (h : Row w a zs) (g i : Nat) (u : Value) (hne : zs = [] ∨ ∀ x, a = some x → x.block ≠ g) : Row (w.setCell ⟨g, i, none⟩ u) a zs := by
  rcases hne with hne | hne
  · exact ⟨h.1, h.2.1, .inl hne⟩
  · exact h.far g i u hne

/-- A locus laid into a result's place. -/
theorem fa_end (f : Fa) (w wr : World) (rb : Nat) (av : Option Addr) (ac : Nat) (dv : Option Addr) (dc : Nat) (hB : Below w.heap.size w wr) (hrb : w.heap.size ≤ rb) (k2 : Blk wr rb 27 zeroL) (hr : RowA wr av f.A) (hd : Row wr dv f.D) (hne : f.A = [] ∨ ∀ x, av = some x → x.block ≠ rb) (hne2 : f.D = [] ∨ ∀ x, dv = some x → x.block ≠ rb) :
    Blk ((((((wr.setCell ⟨rb, 0, none⟩ (.int .i64 f.K)).setCell ⟨rb, 1, none⟩ (.int .i64 f.At)).setCell ⟨rb, 2, none⟩ (.int .i64 f.F)).setCell ⟨rb, 3, none⟩ (.int .i64 f.To)).setCell ⟨rb, 4, none⟩ (.slice av f.A.length ac)).setCell ⟨rb, 5, none⟩ (.slice dv f.D.length dc)) rb 27 (faBox f av ac dv dc) ∧
    Below w.heap.size w ((((((wr.setCell ⟨rb, 0, none⟩ (.int .i64 f.K)).setCell ⟨rb, 1, none⟩ (.int .i64 f.At)).setCell ⟨rb, 2, none⟩ (.int .i64 f.F)).setCell ⟨rb, 3, none⟩ (.int .i64 f.To)).setCell ⟨rb, 4, none⟩ (.slice av f.A.length ac)).setCell ⟨rb, 5, none⟩ (.slice dv f.D.length dc)) ∧
    RowA ((((((wr.setCell ⟨rb, 0, none⟩ (.int .i64 f.K)).setCell ⟨rb, 1, none⟩ (.int .i64 f.At)).setCell ⟨rb, 2, none⟩ (.int .i64 f.F)).setCell ⟨rb, 3, none⟩ (.int .i64 f.To)).setCell ⟨rb, 4, none⟩ (.slice av f.A.length ac)).setCell ⟨rb, 5, none⟩ (.slice dv f.D.length dc)) av f.A ∧
    Row ((((((wr.setCell ⟨rb, 0, none⟩ (.int .i64 f.K)).setCell ⟨rb, 1, none⟩ (.int .i64 f.At)).setCell ⟨rb, 2, none⟩ (.int .i64 f.F)).setCell ⟨rb, 3, none⟩ (.int .i64 f.To)).setCell ⟨rb, 4, none⟩ (.slice av f.A.length ac)).setCell ⟨rb, 5, none⟩ (.slice dv f.D.length dc)) dv f.D := by
  unfold zeroL at k2
  refine ⟨((((((k2.set 0 (.int .i64 f.K)).set 1 (.int .i64 f.At)).set 2 (.int .i64 f.F)).set 3 (.int .i64 f.To)).set 4 (.slice av f.A.length ac)).set 5 (.slice dv f.D.length dc)), ?_, ?_, ?_⟩
  · exact (((((hB.setCell (p := ⟨rb, 0, none⟩) hrb _).setCell (p := ⟨rb, 1, none⟩) hrb _).setCell (p := ⟨rb, 2, none⟩) hrb _).setCell (p := ⟨rb, 3, none⟩) hrb _).setCell (p := ⟨rb, 4, none⟩) hrb _).setCell (p := ⟨rb, 5, none⟩) hrb _
  · exact (((((hr.far2 rb 0 _ hne).far2 rb 1 _ hne).far2 rb 2 _ hne).far2 rb 3 _ hne).far2 rb 4 _ hne).far2 rb 5 _ hne
  · exact (((((hd.far3 rb 0 _ hne2).far3 rb 1 _ hne2).far3 rb 2 _ hne2).far3 rb 3 _ hne2).far3 rb 4 _ hne2).far3 rb 5 _ hne2

/-- What holds on in Make. -/
structure MkL (f : Fa) (a : Option Addr) (ac : Nat) (d : Option Addr) (dc : Nat) (w : World) (g : Nat) (K At F To : Int) (v u : Value) (W : World) : Prop where
  bel : Below w.heap.size w W
  fb : Blk W (w.heap.size + 1) 27 (faBox f a ac d dc)
  zb : Blk W (w.heap.size + 2) 27 zeroL
  gb : Blk W g 27 (MakeB K At F To v u)

theorem MkL.next {f : Fa} {a : Option Addr} {ac : Nat} {d : Option Addr} {dc : Nat} {w : World} {g : Nat} {K At F To : Int} {v u : Value} {W W' : World} (h : MkL f a ac d dc w g K At F To v u W) (hb : Below W.heap.size W W') : MkL f a ac d dc w g K At F To v u W' :=
  ⟨h.bel.trans (hb.mono h.bel.size), h.fb.later hb, h.zb.later hb, h.gb.later hb⟩
theorem MkL.grown {f : Fa} {a : Option Addr} {ac : Nat} {d : Option Addr} {dc : Nat} {w : World} {g : Nat} {K At F To : Int} {v u : Value} {W W' : World} {row : Option Nat} (h : MkL f a ac d dc w g K At F To v u W) (hg : W.grownBy W' row) (hr : ∀ x, row = some x → w.heap.size + 2 < x ∧ g < x) : MkL f a ac d dc w g K At F To v u W' :=
  ⟨below_grown h.bel h.bel.size hg (fun x e => by have := hr x e; omega), h.fb.grown hg (fun e => by have := hr _ e.symm; omega), h.zb.grown hg (fun e => by have := hr _ e.symm; omega), h.gb.grown hg (fun e => by have := hr _ e.symm; omega)⟩
theorem MkL.set4 {f : Fa} {a : Option Addr} {ac : Nat} {d : Option Addr} {dc : Nat} {w : World} {g : Nat} {K At F To : Int} {v u : Value} {W : World} (h : MkL f a ac d dc w g K At F To v u W) (hg : w.heap.size + 2 < g) (v' : Value) : MkL f a ac d dc w g K At F To v' u (W.setCell ⟨g, 4, none⟩ v') :=
  ⟨h.bel.setCell (p := ⟨g, 4, none⟩) (by show w.heap.size ≤ g; omega) _, h.fb.far (p := ⟨g, 4, none⟩) (by show w.heap.size + 1 ≠ g; omega) _, h.zb.far (p := ⟨g, 4, none⟩) (by show w.heap.size + 2 ≠ g; omega) _, h.gb.set 4 _⟩
theorem MkL.set5 {f : Fa} {a : Option Addr} {ac : Nat} {d : Option Addr} {dc : Nat} {w : World} {g : Nat} {K At F To : Int} {v u : Value} {W : World} (h : MkL f a ac d dc w g K At F To v u W) (hg : w.heap.size + 2 < g) (v' : Value) : MkL f a ac d dc w g K At F To v v' (W.setCell ⟨g, 5, none⟩ v') :=
  ⟨h.bel.setCell (p := ⟨g, 5, none⟩) (by show w.heap.size ≤ g; omega) _, h.fb.far (p := ⟨g, 5, none⟩) (by show w.heap.size + 1 ≠ g; omega) _, h.zb.far (p := ⟨g, 5, none⟩) (by show w.heap.size + 2 ≠ g; omega) _, h.gb.set 5 _⟩
/-- A store elsewhere. -/
theorem MkL.far {f : Fa} {a : Option Addr} {ac : Nat} {d : Option Addr} {dc : Nat} {w : World} {g : Nat} {K At F To : Int} {v u : Value} {W : World} (h : MkL f a ac d dc w g K At F To v u W) {b : Nat} (hb : w.heap.size + 2 < b ∧ g < b) (k : Nat) (x : Value) : MkL f a ac d dc w g K At F To v u (W.setCell ⟨b, k, none⟩ x) :=
  ⟨h.bel.setCell (p := ⟨b, k, none⟩) (by show w.heap.size ≤ b; omega) _, h.fb.far (p := ⟨b, k, none⟩) (by show w.heap.size + 1 ≠ b; omega) _, h.zb.far (p := ⟨b, k, none⟩) (by show w.heap.size + 2 ≠ b; omega) _, h.gb.far (p := ⟨b, k, none⟩) (by show g ≠ b; omega) _⟩

theorem take_min (l : List UInt8) : l.take (min (l.length : Int) 300).toNat = l.take 300 := by
  rcases (by omega : (l.length : Int) ≤ 300 ∨ 300 < (l.length : Int)) with h | h
  · rw [Int.min_eq_left h, Int.toNat_natCast, List.take_of_length_le (Nat.le_refl _), List.take_of_length_le (by omega)]
  · rw [Int.min_eq_right (by omega)]
    rfl
theorem cut_take (A : List Ac) (k : Nat) (h : k < A.length) : (A.take (k + 1)).map cutA = (A.take k).map cutA ++ [cutA A[k]] := by
  rw [List.take_succ_eq_append_getElem h, List.map_append]
  rfl

set_option maxHeartbeats 6400000 in
theorem make6_any (c : Cf) (ca : Option Addr) (cc : Nat) (f : Fa) (a : Option Addr) (ac : Nat) (d : Option Addr) (dc : Nat) (w : World) (hc : c.Ok) (hA : RowA w a f.A) (hD : Row w d f.D) :
    Calls Tryz.prog 36 #[.agg #[.int .i64 c.N, .int .i64 c.Pi, .int .i64 c.E, .int .i64 c.G, .int .i64 c.F, .slice ca c.P.length cc], .agg #[.int .i64 f.K, .int .i64 f.At, .int .i64 f.F, .int .i64 f.To, .slice a f.A.length ac, .slice d f.D.length dc]] w (FaRet (makeL c f) w) := by
  have h6 := hc.n6
  have h12 := hc.n12
  have hAl := hA.1
  have hDl := hD.1
  have hB0 : Below w.heap.size w (((w.alloc (.cells #[.int .i64 c.N, .int .i64 c.Pi, .int .i64 c.E, .int .i64 c.G, .int .i64 c.F, .slice ca c.P.length cc] 24)).alloc (.cells #[.int .i64 f.K, .int .i64 f.At, .int .i64 f.F, .int .i64 f.To, .slice a f.A.length ac, .slice d f.D.length dc] 27)).alloc (.cells zeroL 27)) := ((alloc_below w _).alloc (by simp) _).alloc (by simp; omega) _
  have hC0 : Blk (((w.alloc (.cells #[.int .i64 c.N, .int .i64 c.Pi, .int .i64 c.E, .int .i64 c.G, .int .i64 c.F, .slice ca c.P.length cc] 24)).alloc (.cells #[.int .i64 f.K, .int .i64 f.At, .int .i64 f.F, .int .i64 f.To, .slice a f.A.length ac, .slice d f.D.length dc] 27)).alloc (.cells zeroL 27)) w.heap.size 24 (confBox c ca cc) := ((Blk.new w _ _).alloc _).alloc _
  have hF0 : Blk (((w.alloc (.cells #[.int .i64 c.N, .int .i64 c.Pi, .int .i64 c.E, .int .i64 c.G, .int .i64 c.F, .slice ca c.P.length cc] 24)).alloc (.cells #[.int .i64 f.K, .int .i64 f.At, .int .i64 f.F, .int .i64 f.To, .slice a f.A.length ac, .slice d f.D.length dc] 27)).alloc (.cells zeroL 27)) (w.heap.size + 1) 27 (faBox f a ac d dc) := (Blk.newAt _ _ (by simp)).alloc _
  have hZ0 : Blk (((w.alloc (.cells #[.int .i64 c.N, .int .i64 c.Pi, .int .i64 c.E, .int .i64 c.G, .int .i64 c.F, .slice ca c.P.length cc] 24)).alloc (.cells #[.int .i64 f.K, .int .i64 f.At, .int .i64 f.F, .int .i64 f.To, .slice a f.A.length ac, .slice d f.D.length dc] 27)).alloc (.cells zeroL 27)) (w.heap.size + 2) 27 zeroL := Blk.newAt _ _ (by simp)
  unfold zeroL at hB0 hC0 hF0
  conv at hZ0 => arg 1; unfold zeroL
  have HM := Lib.hid (show makeL c f = ⟨f.K % 3, if f.K % 3 = 1 then f.At % c.N else if f.K % 3 = 2 then f.At % (2 * c.N) else 0, f.F % 60, f.F % 60 + f.To % 60, (f.A.take 10).map cutA, f.D.take 10⟩ from rfl)
  have HW := Lib.hid (fun W n m h1 h2 => within6_any n m W h1 h2)
  have w1 : ∀ W, Calls Tryz.prog 53 #[.int .i64 f.K, .int .i64 3] W fun e w' => e = .returned (.int .i64 (f.K % 3)) ∧ W = w' := fun W => within6_any f.K 3 W (by omega) (by omega)
  have w2 : ∀ W, Calls Tryz.prog 53 #[.int .i64 f.F, .int .i64 60] W fun e w' => e = .returned (.int .i64 (f.F % 60)) ∧ W = w' := fun W => within6_any f.F 60 W (by omega) (by omega)
  have w3 : ∀ W, Calls Tryz.prog 53 #[.int .i64 f.To, .int .i64 60] W fun e w' => e = .returned (.int .i64 (f.To % 60)) ∧ W = w' := fun W => within6_any f.To 60 W (by omega) (by omega)
  have w4 : ∀ W, Calls Tryz.prog 53 #[.int .i64 f.At, .int .i64 c.N] W fun e w' => e = .returned (.int .i64 (f.At % c.N)) ∧ W = w' := fun W => within6_any f.At c.N W (by omega) (by omega)
  have w5 : ∀ W, Calls Tryz.prog 53 #[.int .i64 f.At, .int .i64 (2 * c.N)] W fun e w' => e = .returned (.int .i64 (f.At % (2 * c.N))) ∧ W = w' := fun W => within6_any f.At (2 * c.N) W (by omega) (by omega)
  have W1 := Lib.hid w1
  have W2 := Lib.hid w2
  have W3 := Lib.hid w3
  have W4 := Lib.hid w4
  have W5 := Lib.hid w5
  have bK0 : 0 ≤ f.K % 3 := by omega
  have bK1 : f.K % 3 < 3 := by omega
  have bF0 : 0 ≤ f.F % 60 := by omega
  have bF1 : f.F % 60 < 60 := by omega
  have bT0 : 0 ≤ f.To % 60 := by omega
  have bT1 : f.To % 60 < 60 := by omega
  clear w1 w2 w3 w4 w5 HW
  generalize f.K % 3 = K at *
  generalize f.F % 60 = F at *
  generalize f.To % 60 = T at *
  generalize f.At % c.N = A1 at *
  generalize f.At % (2 * c.N) = A2 at *
  go_enter Tryz.func36, Tryz.ntmps36
  go_upto_region 1 with fail
  have hsz2 : w.heap.size + 1 + 1 = w.heap.size + 2 := rfl
  rw [hsz2]
  generalize (((w.alloc (.cells #[.int .i64 c.N, .int .i64 c.Pi, .int .i64 c.E, .int .i64 c.G, .int .i64 c.F, .slice ca c.P.length cc] 24)).alloc (.cells #[.int .i64 f.K, .int .i64 f.At, .int .i64 f.F, .int .i64 f.To, .slice a f.A.length ac, .slice d f.D.length dc] 27)).alloc (.cells #[.int .i64 0, .int .i64 0, .int .i64 0, .int .i64 0, .slice none 0 0, .slice none 0 0] 27)) = w0 at *
  refine region_slots [some 9, some 10, some 11, some 12, some 13, some 14, some 15, some 5, none] [none, none, none, none, none, none, none, none, some 7] 94 9 rfl (by kernel_rfl) (by kernel_rfl) rfl rfl ?_
  apply step_fix
  · intro a W Zs hS hFm hz hd
    have h3 := hFm.old 3 rfl
    conv at h3 => rhs; whnf
    replace h3 := ev_get hFm.size h3
    refine .inl ⟨wanted_none rfl _, fun K hK => ?_⟩
    have HK := Lib.hid hK
    clear hd hFm hK
    go_simp
    exact HK.out _ _ rfl (Below.refl _ _)
  simp only [List.nil_append, List.cons_append]
  apply step_fix
  · intro a W Zs hS hFm hz hd
    have h9 := ev_get hFm.size (hd 0 9 rfl rfl)
    have hq := (hF0.drew1.later hS).at
    unfold faBox at hq
    refine .inl ⟨wanted_none rfl _, fun K hK => ?_⟩
    have HK := Lib.hid hK
    clear hd hFm hK
    go_simp
    exact HK.out _ _ rfl (Below.refl _ _)
  simp only [List.nil_append, List.cons_append]
  apply step_fix
  · intro a W Zs hS hFm hz hd
    have h10 := ev_get hFm.size (hd 1 10 rfl rfl)
    refine .inl ⟨wanted_none rfl _, fun K hK => ?_⟩
    have HK := Lib.hid hK
    clear hd hFm hK
    go_simp
    refine (W1.out _).mono ?_
    rintro e W' ⟨rfl, rfl⟩
    exact HK.out _ _ rfl (Below.refl _ _)
  simp only [List.nil_append, List.cons_append]
  apply step_fix
  · intro a W Zs hS hFm hz hd
    have h3 := hFm.old 3 rfl
    conv at h3 => rhs; whnf
    replace h3 := ev_get hFm.size h3
    refine .inl ⟨wanted_none rfl _, fun K hK => ?_⟩
    have HK := Lib.hid hK
    clear hd hFm hK
    go_simp
    exact HK.out _ _ rfl (Below.refl _ _)
  simp only [List.nil_append, List.cons_append]
  apply step_fix
  · intro a W Zs hS hFm hz hd
    have h12 := ev_get hFm.size (hd 3 12 rfl rfl)
    have hq := (hF0.drew1.later hS).at
    unfold faBox at hq
    refine .inl ⟨wanted_none rfl _, fun K hK => ?_⟩
    have HK := Lib.hid hK
    clear hd hFm hK
    go_simp
    exact HK.out _ _ rfl (Below.refl _ _)
  simp only [List.nil_append, List.cons_append]
  apply step_fix
  · intro a W Zs hS hFm hz hd
    have h13 := ev_get hFm.size (hd 4 13 rfl rfl)
    refine .inl ⟨wanted_none rfl _, fun K hK => ?_⟩
    have HK := Lib.hid hK
    clear hd hFm hK
    go_simp
    refine (W2.out _).mono ?_
    rintro e W' ⟨rfl, rfl⟩
    exact HK.out _ _ rfl (Below.refl _ _)
  simp only [List.nil_append, List.cons_append]
  apply step_fix
  · intro a W Zs hS hFm hz hd
    have h11 := ev_get hFm.size (hd 2 11 rfl rfl)
    have h14 := ev_get hFm.size (hd 5 14 rfl rfl)
    refine .inl ⟨wanted_none rfl _, fun K hK => ?_⟩
    have HK := Lib.hid hK
    clear hd hFm hK
    go_simp
    exact HK.out _ _ rfl (Below.refl _ _)
  simp only [List.nil_append, List.cons_append]
  refine step_of (boxF _ 27 6) (boxF_good _ _ _) ?_ ?_
  · intro a W Zs hS hFm hz hd
    refine .inl ⟨wanted_none rfl _, fun K hK => ?_⟩
    have HK := Lib.hid hK
    clear hd hFm hK
    go_simp
    exact HK.out _ _ ⟨_, _, rfl, rfl, Blk.new _ _ _, .inl ⟨Nat.le_refl _, by simp⟩⟩ (alloc_below _ _)
  simp only [List.nil_append, List.cons_append]
  apply step_lit
  · intro a W Zs hS hFm hz hd hap
    obtain ⟨b5, cs5, e5, n5, q5, z5⟩ := hd 7 5 rfl rfl
    have h5 := ev_get hFm.size e5
    have h15 := ev_get hFm.size (hd 6 15 rfl rfl)
    have hB0 := (hz 7 _ rfl z5).1
    obtain ⟨u0, u1, u2, u3, u4, u5, rfl⟩ := arr6 n5
    have hq := q5.at
    have hfz := q5.frozen
    refine ⟨wanted_none rfl _, b5, z5, fun K hK => ?_⟩
    have HK := Lib.hid hK
    clear hd hFm hK
    go_simp
    exact HK.out undef _ (Only.fill6 _ _ _ _ _ _ _ _) (fun d hd' => by injection hd' with hd'; subst hd'; exact ⟨⟨b5, e5, q5.fill6 _ _ _ _ _ _, .inr (.inl rfl)⟩, ⟨b5, _, e5, rfl, q5.fill6 _ _ _ _ _ _, z5⟩⟩)
  simp only [List.nil_append, List.cons_append]
  intro a w1 Zs hS hFm hz hd
  obtain ⟨b5, e5, q5, f5⟩ := hd 8 5 (by decide) rfl
  obtain ⟨bz, csz, ez, nz, qz, zz⟩ := hd 7 5 (by decide) rfl
  have nb5 := ptr_new ez e5 (hz 7 (by decide) bz zz)
  clear zz qz nz ez
  clear csz bz
  have e0 := hFm.old 0 rfl
  conv at e0 => rhs; whnf
  have e1 := hFm.old 1 rfl
  conv at e1 => rhs; whnf
  have e2 := hFm.old 2 rfl
  conv at e2 => rhs; whnf
  have e3 := hFm.old 3 rfl
  conv at e3 => rhs; whnf
  have e4 := hFm.old 4 rfl
  conv at e4 => rhs; whnf
  have e6 := hFm.old 6 rfl
  conv at e6 => rhs; whnf
  have e7 := hFm.old 7 rfl
  conv at e7 => rhs; whnf
  have e8 := hFm.old 8 rfl
  conv at e8 => rhs; whnf
  have e16 := hFm.old 16 rfl
  conv at e16 => rhs; whnf
  have e17 := hFm.old 17 rfl
  conv at e17 => rhs; whnf
  have e18 := hFm.old 18 rfl
  conv at e18 => rhs; whnf
  have e19 := hFm.old 19 rfl
  conv at e19 => rhs; whnf
  have e20 := hFm.old 20 rfl
  conv at e20 => rhs; whnf
  have e21 := hFm.old 21 rfl
  conv at e21 => rhs; whnf
  have e22 := hFm.old 22 rfl
  conv at e22 => rhs; whnf
  have e23 := hFm.old 23 rfl
  conv at e23 => rhs; whnf
  have e24 := hFm.old 24 rfl
  conv at e24 => rhs; whnf
  have e25 := hFm.old 25 rfl
  conv at e25 => rhs; whnf
  have e26 := hFm.old 26 rfl
  conv at e26 => rhs; whnf
  have e27 := hFm.old 27 rfl
  conv at e27 => rhs; whnf
  have e28 := hFm.old 28 rfl
  conv at e28 => rhs; whnf
  have e29 := hFm.old 29 rfl
  conv at e29 => rhs; whnf
  have e30 := hFm.old 30 rfl
  conv at e30 => rhs; whnf
  have e31 := hFm.old 31 rfl
  conv at e31 => rhs; whnf
  have e32 := hFm.old 32 rfl
  conv at e32 => rhs; whnf
  have e33 := hFm.old 33 rfl
  conv at e33 => rhs; whnf
  have e34 := hFm.old 34 rfl
  conv at e34 => rhs; whnf
  have e35 := hFm.old 35 rfl
  conv at e35 => rhs; whnf
  have e36 := hFm.old 36 rfl
  conv at e36 => rhs; whnf
  have e37 := hFm.old 37 rfl
  conv at e37 => rhs; whnf
  have e38 := hFm.old 38 rfl
  conv at e38 => rhs; whnf
  have e39 := hFm.old 39 rfl
  conv at e39 => rhs; whnf
  have e40 := hFm.old 40 rfl
  conv at e40 => rhs; whnf
  have e41 := hFm.old 41 rfl
  conv at e41 => rhs; whnf
  have e42 := hFm.old 42 rfl
  conv at e42 => rhs; whnf
  have e43 := hFm.old 43 rfl
  conv at e43 => rhs; whnf
  have e44 := hFm.old 44 rfl
  conv at e44 => rhs; whnf
  have e45 := hFm.old 45 rfl
  conv at e45 => rhs; whnf
  have e46 := hFm.old 46 rfl
  conv at e46 => rhs; whnf
  have e47 := hFm.old 47 rfl
  conv at e47 => rhs; whnf
  have e48 := hFm.old 48 rfl
  conv at e48 => rhs; whnf
  have e49 := hFm.old 49 rfl
  conv at e49 => rhs; whnf
  have e50 := hFm.old 50 rfl
  conv at e50 => rhs; whnf
  have e51 := hFm.old 51 rfl
  conv at e51 => rhs; whnf
  have e52 := hFm.old 52 rfl
  conv at e52 => rhs; whnf
  have e53 := hFm.old 53 rfl
  conv at e53 => rhs; whnf
  have e54 := hFm.old 54 rfl
  conv at e54 => rhs; whnf
  have e55 := hFm.old 55 rfl
  conv at e55 => rhs; whnf
  have e56 := hFm.old 56 rfl
  conv at e56 => rhs; whnf
  have e57 := hFm.old 57 rfl
  conv at e57 => rhs; whnf
  have e58 := hFm.old 58 rfl
  conv at e58 => rhs; whnf
  have e59 := hFm.old 59 rfl
  conv at e59 => rhs; whnf
  have e60 := hFm.old 60 rfl
  conv at e60 => rhs; whnf
  have e61 := hFm.old 61 rfl
  conv at e61 => rhs; whnf
  have e62 := hFm.old 62 rfl
  conv at e62 => rhs; whnf
  have e63 := hFm.old 63 rfl
  conv at e63 => rhs; whnf
  have e64 := hFm.old 64 rfl
  conv at e64 => rhs; whnf
  have e65 := hFm.old 65 rfl
  conv at e65 => rhs; whnf
  have e66 := hFm.old 66 rfl
  conv at e66 => rhs; whnf
  have e67 := hFm.old 67 rfl
  conv at e67 => rhs; whnf
  have e68 := hFm.old 68 rfl
  conv at e68 => rhs; whnf
  have e69 := hFm.old 69 rfl
  conv at e69 => rhs; whnf
  have e70 := hFm.old 70 rfl
  conv at e70 => rhs; whnf
  have e71 := hFm.old 71 rfl
  conv at e71 => rhs; whnf
  have e72 := hFm.old 72 rfl
  conv at e72 => rhs; whnf
  have e73 := hFm.old 73 rfl
  conv at e73 => rhs; whnf
  have e74 := hFm.old 74 rfl
  conv at e74 => rhs; whnf
  have e75 := hFm.old 75 rfl
  conv at e75 => rhs; whnf
  have e76 := hFm.old 76 rfl
  conv at e76 => rhs; whnf
  have e77 := hFm.old 77 rfl
  conv at e77 => rhs; whnf
  have e78 := hFm.old 78 rfl
  conv at e78 => rhs; whnf
  have e79 := hFm.old 79 rfl
  conv at e79 => rhs; whnf
  have e80 := hFm.old 80 rfl
  conv at e80 => rhs; whnf
  have e81 := hFm.old 81 rfl
  conv at e81 => rhs; whnf
  have e82 := hFm.old 82 rfl
  conv at e82 => rhs; whnf
  have e83 := hFm.old 83 rfl
  conv at e83 => rhs; whnf
  have e84 := hFm.old 84 rfl
  conv at e84 => rhs; whnf
  have e85 := hFm.old 85 rfl
  conv at e85 => rhs; whnf
  have e86 := hFm.old 86 rfl
  conv at e86 => rhs; whnf
  have e87 := hFm.old 87 rfl
  conv at e87 => rhs; whnf
  have e88 := hFm.old 88 rfl
  conv at e88 => rhs; whnf
  have e89 := hFm.old 89 rfl
  conv at e89 => rhs; whnf
  have e90 := hFm.old 90 rfl
  conv at e90 => rhs; whnf
  have e91 := hFm.old 91 rfl
  conv at e91 => rhs; whnf
  have e92 := hFm.old 92 rfl
  conv at e92 => rhs; whnf
  have e93 := hFm.old 93 rfl
  conv at e93 => rhs; whnf
  have hsz := hFm.size
  have hdf := hFm.defers
  clear hd hFm
  obtain ⟨t, df⟩ := a
  simp only at hsz hdf
  subst hdf
  obtain ⟨x, hx⟩ : ∃ x : Nat → Value, ∀ i, t.getD i undef = x i := ⟨fun i => t.getD i undef, fun _ => rfl⟩
  have h5 := (hx 5).symm.trans e5
  have h0 := (hx 0).symm.trans e0
  have h1 := (hx 1).symm.trans e1
  have h2 := (hx 2).symm.trans e2
  have h3 := (hx 3).symm.trans e3
  have h4 := (hx 4).symm.trans e4
  have h6 := (hx 6).symm.trans e6
  have h7 := (hx 7).symm.trans e7
  have h8 := (hx 8).symm.trans e8
  have h16 := (hx 16).symm.trans e16
  have h17 := (hx 17).symm.trans e17
  have h18 := (hx 18).symm.trans e18
  have h19 := (hx 19).symm.trans e19
  have h20 := (hx 20).symm.trans e20
  have h21 := (hx 21).symm.trans e21
  have h22 := (hx 22).symm.trans e22
  have h23 := (hx 23).symm.trans e23
  have h24 := (hx 24).symm.trans e24
  have h25 := (hx 25).symm.trans e25
  have h26 := (hx 26).symm.trans e26
  have h27 := (hx 27).symm.trans e27
  have h28 := (hx 28).symm.trans e28
  have h29 := (hx 29).symm.trans e29
  have h30 := (hx 30).symm.trans e30
  have h31 := (hx 31).symm.trans e31
  have h32 := (hx 32).symm.trans e32
  have h33 := (hx 33).symm.trans e33
  have h34 := (hx 34).symm.trans e34
  have h35 := (hx 35).symm.trans e35
  have h36 := (hx 36).symm.trans e36
  have h37 := (hx 37).symm.trans e37
  have h38 := (hx 38).symm.trans e38
  have h39 := (hx 39).symm.trans e39
  have h40 := (hx 40).symm.trans e40
  have h41 := (hx 41).symm.trans e41
  have h42 := (hx 42).symm.trans e42
  have h43 := (hx 43).symm.trans e43
  have h44 := (hx 44).symm.trans e44
  have h45 := (hx 45).symm.trans e45
  have h46 := (hx 46).symm.trans e46
  have h47 := (hx 47).symm.trans e47
  have h48 := (hx 48).symm.trans e48
  have h49 := (hx 49).symm.trans e49
  have h50 := (hx 50).symm.trans e50
  have h51 := (hx 51).symm.trans e51
  have h52 := (hx 52).symm.trans e52
  have h53 := (hx 53).symm.trans e53
  have h54 := (hx 54).symm.trans e54
  have h55 := (hx 55).symm.trans e55
  have h56 := (hx 56).symm.trans e56
  have h57 := (hx 57).symm.trans e57
  have h58 := (hx 58).symm.trans e58
  have h59 := (hx 59).symm.trans e59
  have h60 := (hx 60).symm.trans e60
  have h61 := (hx 61).symm.trans e61
  have h62 := (hx 62).symm.trans e62
  have h63 := (hx 63).symm.trans e63
  have h64 := (hx 64).symm.trans e64
  have h65 := (hx 65).symm.trans e65
  have h66 := (hx 66).symm.trans e66
  have h67 := (hx 67).symm.trans e67
  have h68 := (hx 68).symm.trans e68
  have h69 := (hx 69).symm.trans e69
  have h70 := (hx 70).symm.trans e70
  have h71 := (hx 71).symm.trans e71
  have h72 := (hx 72).symm.trans e72
  have h73 := (hx 73).symm.trans e73
  have h74 := (hx 74).symm.trans e74
  have h75 := (hx 75).symm.trans e75
  have h76 := (hx 76).symm.trans e76
  have h77 := (hx 77).symm.trans e77
  have h78 := (hx 78).symm.trans e78
  have h79 := (hx 79).symm.trans e79
  have h80 := (hx 80).symm.trans e80
  have h81 := (hx 81).symm.trans e81
  have h82 := (hx 82).symm.trans e82
  have h83 := (hx 83).symm.trans e83
  have h84 := (hx 84).symm.trans e84
  have h85 := (hx 85).symm.trans e85
  have h86 := (hx 86).symm.trans e86
  have h87 := (hx 87).symm.trans e87
  have h88 := (hx 88).symm.trans e88
  have h89 := (hx 89).symm.trans e89
  have h90 := (hx 90).symm.trans e90
  have h91 := (hx 91).symm.trans e91
  have h92 := (hx 92).symm.trans e92
  have h93 := (hx 93).symm.trans e93
  have ht' : t = #[x 0, x 1, x 2, x 3, x 4, x 5, x 6, x 7, x 8, x 9, x 10, x 11, x 12, x 13, x 14, x 15, x 16, x 17, x 18, x 19, x 20, x 21, x 22, x 23, x 24, x 25, x 26, x 27, x 28, x 29, x 30, x 31, x 32, x 33, x 34, x 35, x 36, x 37, x 38, x 39, x 40, x 41, x 42, x 43, x 44, x 45, x 46, x 47, x 48, x 49, x 50, x 51, x 52, x 53, x 54, x 55, x 56, x 57, x 58, x 59, x 60, x 61, x 62, x 63, x 64, x 65, x 66, x 67, x 68, x 69, x 70, x 71, x 72, x 73, x 74, x 75, x 76, x 77, x 78, x 79, x 80, x 81, x 82, x 83, x 84, x 85, x 86, x 87, x 88, x 89, x 90, x 91, x 92, x 93] := frame_lit t 94 hsz x hx
  clear hx hsz hz e5 e0 e1 e2 e3 e4 e6 e7 e8 e16 e17 e18 e19 e20 e21 e22 e23 e24 e25 e26 e27 e28 e29 e30 e31 e32 e33 e34 e35 e36 e37 e38 e39 e40 e41 e42 e43 e44 e45 e46 e47 e48 e49 e50 e51 e52 e53 e54 e55 e56 e57 e58 e59 e60 e61 e62 e63 e64 e65 e66 e67 e68 e69 e70 e71 e72 e73 e74 e75 e76 e77 e78 e79 e80 e81 e82 e83 e84 e85 e86 e87 e88 e89 e90 e91 e92 e93
  subst ht'
  (try dsimp only)
  rw [h5, h0, h1, h2, h3, h4, h6, h7, h8, h16, h17, h18, h19, h20, h21, h22, h23, h24, h25, h26, h27, h28, h29, h30, h31, h32, h33, h34, h35, h36, h37, h38, h39, h40, h41, h42, h43, h44, h45, h46, h47, h48, h49, h50, h51, h52, h53, h54, h55, h56, h57, h58, h59, h60, h61, h62, h63, h64, h65, h66, h67, h68, h69, h70, h71, h72, h73, h74, h75, h76, h77, h78, h79, h80, h81, h82, h83, h84, h85, h86, h87, h88, h89, h90, h91, h92, h93]
  clear h5 h0 h1 h2 h3 h4 h6 h7 h8 h16 h17 h18 h19 h20 h21 h22 h23 h24 h25 h26 h27 h28 h29 h30 h31 h32 h33 h34 h35 h36 h37 h38 h39 h40 h41 h42 h43 h44 h45 h46 h47 h48 h49 h50 h51 h52 h53 h54 h55 h56 h57 h58 h59 h60 h61 h62 h63 h64 h65 h66 h67 h68 h69 h70 h71 h72 h73 h74 h75 h76 h77 h78 h79 h80 h81 h82 h83 h84 h85 h86 h87 h88 h89 h90 h91 h92 h93
  have hb1 := from_drew hS
  have hg1 : w.heap.size + 2 < b5 := by have h1 := hZ0.lt; have h2 : w0.drew.heap.size = w0.heap.size := rfl; have h3 := nb5.1; omega
  have hB := hB0.trans (hb1.mono hB0.size)
  have hC := hC0.later hb1
  have hF := hF0.later hb1
  have hZ := hZ0.later hb1
  clear hS hb1 hB0 hC0 hF0 hZ0 nb5 f5 W1 W2
  have z1 : IntKind.i64.wrap (F + T) = F + T := wrap_in _ (by omega) (by omega)
  go_upto_region 2 with fail
  refine region_tail [some 16, some 17, some 18, some 19, some 20, some 21, some 22, none] [none, none, none, none, none, none, none, none] 94 7 (by kernel_rfl) (by kernel_rfl) rfl rfl ?_
  simp only [List.take_succ_cons, List.take_zero, List.drop_succ_cons, List.drop_zero]
  apply step_fix
  · intro a W Zs hS hFm hz hd
    have h5 := hFm.old 5 rfl
    conv at h5 => rhs; whnf
    replace h5 := ev_get hFm.size h5
    refine .inl ⟨wanted_none rfl _, fun K hK => ?_⟩
    have HK := Lib.hid hK
    clear hd hFm hK
    go_simp
    exact HK.out _ _ rfl (Below.refl _ _)
  simp only [List.nil_append, List.cons_append]
  apply step_fix
  · intro a W Zs hS hFm hz hd
    have h16 := ev_get hFm.size (hd 0 16 rfl rfl)
    have hq := (q5.drew1.later hS).at
    refine .inl ⟨wanted_none rfl _, fun K hK => ?_⟩
    have HK := Lib.hid hK
    clear hd hFm hK
    go_simp
    exact HK.out _ _ rfl (Below.refl _ _)
  simp only [List.nil_append, List.cons_append]
  apply step_fix
  · intro a W Zs hS hFm hz hd
    have h3 := hFm.old 3 rfl
    conv at h3 => rhs; whnf
    replace h3 := ev_get hFm.size h3
    refine .inl ⟨wanted_none rfl _, fun K hK => ?_⟩
    have HK := Lib.hid hK
    clear hd hFm hK
    go_simp
    exact HK.out _ _ rfl (Below.refl _ _)
  simp only [List.nil_append, List.cons_append]
  apply step_fix
  · intro a W Zs hS hFm hz hd
    have h18 := ev_get hFm.size (hd 2 18 rfl rfl)
    have hq := (hF.drew1.later hS).at
    unfold faBox at hq
    refine .inl ⟨wanted_none rfl _, fun K hK => ?_⟩
    have HK := Lib.hid hK
    clear hd hFm hK
    go_simp
    exact HK.out _ _ rfl (Below.refl _ _)
  simp only [List.nil_append, List.cons_append]
  apply step_fix
  · intro a W Zs hS hFm hz hd
    have h19 := ev_get hFm.size (hd 3 19 rfl rfl)
    refine .inl ⟨wanted_none rfl _, fun K hK => ?_⟩
    have HK := Lib.hid hK
    clear hd hFm hK
    go_simp
    refine (W3.out _).mono ?_
    rintro e W' ⟨rfl, rfl⟩
    exact HK.out _ _ rfl (Below.refl _ _)
  simp only [List.nil_append, List.cons_append]
  apply step_fix
  · intro a W Zs hS hFm hz hd
    have h17 := ev_get hFm.size (hd 1 17 rfl rfl)
    have h20 := ev_get hFm.size (hd 4 20 rfl rfl)
    refine .inl ⟨wanted_none rfl _, fun K hK => ?_⟩
    have HK := Lib.hid hK
    clear hd hFm hK
    go_simp
    exact HK.out _ _ rfl (Below.refl _ _)
  simp only [List.nil_append, List.cons_append]
  apply step_fix
  · intro a W Zs hS hFm hz hd
    have h5 := hFm.old 5 rfl
    conv at h5 => rhs; whnf
    replace h5 := ev_get hFm.size h5
    refine .inl ⟨wanted_none rfl _, fun K hK => ?_⟩
    have HK := Lib.hid hK
    clear hd hFm hK
    go_simp
    exact HK.out _ _ rfl (Below.refl _ _)
  simp only [List.nil_append, List.cons_append]
  intro a w2 Zs hS hFm hz hd
  have e21 := hd 5 21 (by decide) rfl
  have e22 := hd 6 22 (by decide) rfl
  have e0 := hFm.old 0 rfl
  conv at e0 => rhs; whnf
  have e1 := hFm.old 1 rfl
  conv at e1 => rhs; whnf
  have e2 := hFm.old 2 rfl
  conv at e2 => rhs; whnf
  have e3 := hFm.old 3 rfl
  conv at e3 => rhs; whnf
  have e4 := hFm.old 4 rfl
  conv at e4 => rhs; whnf
  have e5 := hFm.old 5 rfl
  conv at e5 => rhs; whnf
  have e6 := hFm.old 6 rfl
  conv at e6 => rhs; whnf
  have e7 := hFm.old 7 rfl
  conv at e7 => rhs; whnf
  have e8 := hFm.old 8 rfl
  conv at e8 => rhs; whnf
  have e9 := hFm.old 9 rfl
  conv at e9 => rhs; whnf
  have e10 := hFm.old 10 rfl
  conv at e10 => rhs; whnf
  have e11 := hFm.old 11 rfl
  conv at e11 => rhs; whnf
  have e12 := hFm.old 12 rfl
  conv at e12 => rhs; whnf
  have e13 := hFm.old 13 rfl
  conv at e13 => rhs; whnf
  have e14 := hFm.old 14 rfl
  conv at e14 => rhs; whnf
  have e15 := hFm.old 15 rfl
  conv at e15 => rhs; whnf
  have e23 := hFm.old 23 rfl
  conv at e23 => rhs; whnf
  have e24 := hFm.old 24 rfl
  conv at e24 => rhs; whnf
  have e25 := hFm.old 25 rfl
  conv at e25 => rhs; whnf
  have e26 := hFm.old 26 rfl
  conv at e26 => rhs; whnf
  have e27 := hFm.old 27 rfl
  conv at e27 => rhs; whnf
  have e28 := hFm.old 28 rfl
  conv at e28 => rhs; whnf
  have e29 := hFm.old 29 rfl
  conv at e29 => rhs; whnf
  have e30 := hFm.old 30 rfl
  conv at e30 => rhs; whnf
  have e31 := hFm.old 31 rfl
  conv at e31 => rhs; whnf
  have e32 := hFm.old 32 rfl
  conv at e32 => rhs; whnf
  have e33 := hFm.old 33 rfl
  conv at e33 => rhs; whnf
  have e34 := hFm.old 34 rfl
  conv at e34 => rhs; whnf
  have e35 := hFm.old 35 rfl
  conv at e35 => rhs; whnf
  have e36 := hFm.old 36 rfl
  conv at e36 => rhs; whnf
  have e37 := hFm.old 37 rfl
  conv at e37 => rhs; whnf
  have e38 := hFm.old 38 rfl
  conv at e38 => rhs; whnf
  have e39 := hFm.old 39 rfl
  conv at e39 => rhs; whnf
  have e40 := hFm.old 40 rfl
  conv at e40 => rhs; whnf
  have e41 := hFm.old 41 rfl
  conv at e41 => rhs; whnf
  have e42 := hFm.old 42 rfl
  conv at e42 => rhs; whnf
  have e43 := hFm.old 43 rfl
  conv at e43 => rhs; whnf
  have e44 := hFm.old 44 rfl
  conv at e44 => rhs; whnf
  have e45 := hFm.old 45 rfl
  conv at e45 => rhs; whnf
  have e46 := hFm.old 46 rfl
  conv at e46 => rhs; whnf
  have e47 := hFm.old 47 rfl
  conv at e47 => rhs; whnf
  have e48 := hFm.old 48 rfl
  conv at e48 => rhs; whnf
  have e49 := hFm.old 49 rfl
  conv at e49 => rhs; whnf
  have e50 := hFm.old 50 rfl
  conv at e50 => rhs; whnf
  have e51 := hFm.old 51 rfl
  conv at e51 => rhs; whnf
  have e52 := hFm.old 52 rfl
  conv at e52 => rhs; whnf
  have e53 := hFm.old 53 rfl
  conv at e53 => rhs; whnf
  have e54 := hFm.old 54 rfl
  conv at e54 => rhs; whnf
  have e55 := hFm.old 55 rfl
  conv at e55 => rhs; whnf
  have e56 := hFm.old 56 rfl
  conv at e56 => rhs; whnf
  have e57 := hFm.old 57 rfl
  conv at e57 => rhs; whnf
  have e58 := hFm.old 58 rfl
  conv at e58 => rhs; whnf
  have e59 := hFm.old 59 rfl
  conv at e59 => rhs; whnf
  have e60 := hFm.old 60 rfl
  conv at e60 => rhs; whnf
  have e61 := hFm.old 61 rfl
  conv at e61 => rhs; whnf
  have e62 := hFm.old 62 rfl
  conv at e62 => rhs; whnf
  have e63 := hFm.old 63 rfl
  conv at e63 => rhs; whnf
  have e64 := hFm.old 64 rfl
  conv at e64 => rhs; whnf
  have e65 := hFm.old 65 rfl
  conv at e65 => rhs; whnf
  have e66 := hFm.old 66 rfl
  conv at e66 => rhs; whnf
  have e67 := hFm.old 67 rfl
  conv at e67 => rhs; whnf
  have e68 := hFm.old 68 rfl
  conv at e68 => rhs; whnf
  have e69 := hFm.old 69 rfl
  conv at e69 => rhs; whnf
  have e70 := hFm.old 70 rfl
  conv at e70 => rhs; whnf
  have e71 := hFm.old 71 rfl
  conv at e71 => rhs; whnf
  have e72 := hFm.old 72 rfl
  conv at e72 => rhs; whnf
  have e73 := hFm.old 73 rfl
  conv at e73 => rhs; whnf
  have e74 := hFm.old 74 rfl
  conv at e74 => rhs; whnf
  have e75 := hFm.old 75 rfl
  conv at e75 => rhs; whnf
  have e76 := hFm.old 76 rfl
  conv at e76 => rhs; whnf
  have e77 := hFm.old 77 rfl
  conv at e77 => rhs; whnf
  have e78 := hFm.old 78 rfl
  conv at e78 => rhs; whnf
  have e79 := hFm.old 79 rfl
  conv at e79 => rhs; whnf
  have e80 := hFm.old 80 rfl
  conv at e80 => rhs; whnf
  have e81 := hFm.old 81 rfl
  conv at e81 => rhs; whnf
  have e82 := hFm.old 82 rfl
  conv at e82 => rhs; whnf
  have e83 := hFm.old 83 rfl
  conv at e83 => rhs; whnf
  have e84 := hFm.old 84 rfl
  conv at e84 => rhs; whnf
  have e85 := hFm.old 85 rfl
  conv at e85 => rhs; whnf
  have e86 := hFm.old 86 rfl
  conv at e86 => rhs; whnf
  have e87 := hFm.old 87 rfl
  conv at e87 => rhs; whnf
  have e88 := hFm.old 88 rfl
  conv at e88 => rhs; whnf
  have e89 := hFm.old 89 rfl
  conv at e89 => rhs; whnf
  have e90 := hFm.old 90 rfl
  conv at e90 => rhs; whnf
  have e91 := hFm.old 91 rfl
  conv at e91 => rhs; whnf
  have e92 := hFm.old 92 rfl
  conv at e92 => rhs; whnf
  have e93 := hFm.old 93 rfl
  conv at e93 => rhs; whnf
  have hsz := hFm.size
  have hdf := hFm.defers
  clear hd hFm
  obtain ⟨t, df⟩ := a
  simp only at hsz hdf
  subst hdf
  obtain ⟨x, hx⟩ : ∃ x : Nat → Value, ∀ i, t.getD i undef = x i := ⟨fun i => t.getD i undef, fun _ => rfl⟩
  have h21 := (hx 21).symm.trans e21
  have h22 := (hx 22).symm.trans e22
  have h0 := (hx 0).symm.trans e0
  have h1 := (hx 1).symm.trans e1
  have h2 := (hx 2).symm.trans e2
  have h3 := (hx 3).symm.trans e3
  have h4 := (hx 4).symm.trans e4
  have h5 := (hx 5).symm.trans e5
  have h6 := (hx 6).symm.trans e6
  have h7 := (hx 7).symm.trans e7
  have h8 := (hx 8).symm.trans e8
  have h9 := (hx 9).symm.trans e9
  have h10 := (hx 10).symm.trans e10
  have h11 := (hx 11).symm.trans e11
  have h12 := (hx 12).symm.trans e12
  have h13 := (hx 13).symm.trans e13
  have h14 := (hx 14).symm.trans e14
  have h15 := (hx 15).symm.trans e15
  have h23 := (hx 23).symm.trans e23
  have h24 := (hx 24).symm.trans e24
  have h25 := (hx 25).symm.trans e25
  have h26 := (hx 26).symm.trans e26
  have h27 := (hx 27).symm.trans e27
  have h28 := (hx 28).symm.trans e28
  have h29 := (hx 29).symm.trans e29
  have h30 := (hx 30).symm.trans e30
  have h31 := (hx 31).symm.trans e31
  have h32 := (hx 32).symm.trans e32
  have h33 := (hx 33).symm.trans e33
  have h34 := (hx 34).symm.trans e34
  have h35 := (hx 35).symm.trans e35
  have h36 := (hx 36).symm.trans e36
  have h37 := (hx 37).symm.trans e37
  have h38 := (hx 38).symm.trans e38
  have h39 := (hx 39).symm.trans e39
  have h40 := (hx 40).symm.trans e40
  have h41 := (hx 41).symm.trans e41
  have h42 := (hx 42).symm.trans e42
  have h43 := (hx 43).symm.trans e43
  have h44 := (hx 44).symm.trans e44
  have h45 := (hx 45).symm.trans e45
  have h46 := (hx 46).symm.trans e46
  have h47 := (hx 47).symm.trans e47
  have h48 := (hx 48).symm.trans e48
  have h49 := (hx 49).symm.trans e49
  have h50 := (hx 50).symm.trans e50
  have h51 := (hx 51).symm.trans e51
  have h52 := (hx 52).symm.trans e52
  have h53 := (hx 53).symm.trans e53
  have h54 := (hx 54).symm.trans e54
  have h55 := (hx 55).symm.trans e55
  have h56 := (hx 56).symm.trans e56
  have h57 := (hx 57).symm.trans e57
  have h58 := (hx 58).symm.trans e58
  have h59 := (hx 59).symm.trans e59
  have h60 := (hx 60).symm.trans e60
  have h61 := (hx 61).symm.trans e61
  have h62 := (hx 62).symm.trans e62
  have h63 := (hx 63).symm.trans e63
  have h64 := (hx 64).symm.trans e64
  have h65 := (hx 65).symm.trans e65
  have h66 := (hx 66).symm.trans e66
  have h67 := (hx 67).symm.trans e67
  have h68 := (hx 68).symm.trans e68
  have h69 := (hx 69).symm.trans e69
  have h70 := (hx 70).symm.trans e70
  have h71 := (hx 71).symm.trans e71
  have h72 := (hx 72).symm.trans e72
  have h73 := (hx 73).symm.trans e73
  have h74 := (hx 74).symm.trans e74
  have h75 := (hx 75).symm.trans e75
  have h76 := (hx 76).symm.trans e76
  have h77 := (hx 77).symm.trans e77
  have h78 := (hx 78).symm.trans e78
  have h79 := (hx 79).symm.trans e79
  have h80 := (hx 80).symm.trans e80
  have h81 := (hx 81).symm.trans e81
  have h82 := (hx 82).symm.trans e82
  have h83 := (hx 83).symm.trans e83
  have h84 := (hx 84).symm.trans e84
  have h85 := (hx 85).symm.trans e85
  have h86 := (hx 86).symm.trans e86
  have h87 := (hx 87).symm.trans e87
  have h88 := (hx 88).symm.trans e88
  have h89 := (hx 89).symm.trans e89
  have h90 := (hx 90).symm.trans e90
  have h91 := (hx 91).symm.trans e91
  have h92 := (hx 92).symm.trans e92
  have h93 := (hx 93).symm.trans e93
  have ht' : t = #[x 0, x 1, x 2, x 3, x 4, x 5, x 6, x 7, x 8, x 9, x 10, x 11, x 12, x 13, x 14, x 15, x 16, x 17, x 18, x 19, x 20, x 21, x 22, x 23, x 24, x 25, x 26, x 27, x 28, x 29, x 30, x 31, x 32, x 33, x 34, x 35, x 36, x 37, x 38, x 39, x 40, x 41, x 42, x 43, x 44, x 45, x 46, x 47, x 48, x 49, x 50, x 51, x 52, x 53, x 54, x 55, x 56, x 57, x 58, x 59, x 60, x 61, x 62, x 63, x 64, x 65, x 66, x 67, x 68, x 69, x 70, x 71, x 72, x 73, x 74, x 75, x 76, x 77, x 78, x 79, x 80, x 81, x 82, x 83, x 84, x 85, x 86, x 87, x 88, x 89, x 90, x 91, x 92, x 93] := frame_lit t 94 hsz x hx
  clear hx hsz hz e21 e22 e0 e1 e2 e3 e4 e5 e6 e7 e8 e9 e10 e11 e12 e13 e14 e15 e23 e24 e25 e26 e27 e28 e29 e30 e31 e32 e33 e34 e35 e36 e37 e38 e39 e40 e41 e42 e43 e44 e45 e46 e47 e48 e49 e50 e51 e52 e53 e54 e55 e56 e57 e58 e59 e60 e61 e62 e63 e64 e65 e66 e67 e68 e69 e70 e71 e72 e73 e74 e75 e76 e77 e78 e79 e80 e81 e82 e83 e84 e85 e86 e87 e88 e89 e90 e91 e92 e93
  subst ht'
  (try dsimp only)
  rw [h21, h22, h0, h1, h2, h3, h4, h5, h6, h7, h8, h9, h10, h11, h12, h13, h14, h15, h23, h24, h25, h26, h27, h28, h29, h30, h31, h32, h33, h34, h35, h36, h37, h38, h39, h40, h41, h42, h43, h44, h45, h46, h47, h48, h49, h50, h51, h52, h53, h54, h55, h56, h57, h58, h59, h60, h61, h62, h63, h64, h65, h66, h67, h68, h69, h70, h71, h72, h73, h74, h75, h76, h77, h78, h79, h80, h81, h82, h83, h84, h85, h86, h87, h88, h89, h90, h91, h92, h93]
  clear h21 h22 h0 h1 h2 h3 h4 h5 h6 h7 h8 h9 h10 h11 h12 h13 h14 h15 h23 h24 h25 h26 h27 h28 h29 h30 h31 h32 h33 h34 h35 h36 h37 h38 h39 h40 h41 h42 h43 h44 h45 h46 h47 h48 h49 h50 h51 h52 h53 h54 h55 h56 h57 h58 h59 h60 h61 h62 h63 h64 h65 h66 h67 h68 h69 h70 h71 h72 h73 h74 h75 h76 h77 h78 h79 h80 h81 h82 h83 h84 h85 h86 h87 h88 h89 h90 h91 h92 h93
  have hb1 := from_drew hS
  replace hB := hB.trans (hb1.mono hB.size)
  replace hC := hC.later hb1
  replace hF := hF.later hb1
  replace hZ := hZ.later hb1
  replace q5 := q5.later hb1
  clear hS hb1 W3
  have hFz := q5.frozen
  have hQg := q5.at
  go_upto_region 3 with fail
  have kL : MkL f a ac d dc w b5 K 0 F (F + T) (.slice none 0 0) (.slice none 0 0) (w2.setCell ⟨b5, 3, none⟩ (.int .i64 (F + T))) :=
    ⟨hB.setCell (p := ⟨b5, 3, none⟩) (by show w.heap.size ≤ b5; omega) _, hF.far (p := ⟨b5, 3, none⟩) (by show w.heap.size + 1 ≠ b5; omega) _, hZ.far (p := ⟨b5, 3, none⟩) (by show w.heap.size + 2 ≠ b5; omega) _, q5.set 3 _⟩
  replace hC := hC.far (p := ⟨b5, 3, none⟩) (by show w.heap.size ≠ b5; omega) (.int .i64 (F + T))
  clear hFz hQg q5 hB hF hZ
  generalize w2.setCell ⟨b5, 3, none⟩ (.int .i64 (F + T)) = w3 at *
  have hQg := kL.gb.at
  unfold MakeB at hQg
  have hQf := kL.fb.at
  unfold faBox at hQf
  have hQc := hC.at
  unfold confBox at hQc
  have hFz := kL.gb.frozen
  have hA3 := hA.later kL.bel
  have hD3 := hD.later kL.bel
  have step : ∀ At, MkL f a ac d dc w b5 K At F (F + T) (.slice none 0 0) (.slice none 0 0) (w3.setCell ⟨b5, 1, none⟩ (.int .i64 At)) := fun At =>
    ⟨kL.bel.setCell (p := ⟨b5, 1, none⟩) (by show w.heap.size ≤ b5; omega) _, kL.fb.far (p := ⟨b5, 1, none⟩) (by show w.heap.size + 1 ≠ b5; omega) _, kL.zb.far (p := ⟨b5, 1, none⟩) (by show w.heap.size + 2 ≠ b5; omega) _, kL.gb.set 1 _⟩
  have HStep := Lib.hid step
  clear step
  clear hA3 hD3
  rcases (by omega : K = 0 ∨ K = 1 ∨ K = 2) with h | h | h
  case' inl =>
    subst h
    go_upto_region 8 with fail
    obtain ⟨K, At, kL, HM2⟩ : ∃ K At, MkL f a ac d dc w b5 K At F (F + T) (.slice none 0 0) (.slice none 0 0) w3 ∧ RowKit.Hid (makeL c f = ⟨K, At, F, F + T, (f.A.take 10).map cutA, f.D.take 10⟩) := ⟨_, _, kL, Lib.hid (by rw [HM.out]; rfl)⟩
    clear HM HStep hQg hQf hQc hFz hC W4 W5
    generalize w3 = w4 at *
  case' inr.inl =>
    subst h
    go_wp2_with fail
    refine (W4.out _).mono ?_
    rintro e wl ⟨rfl, rfl⟩
    go_upto_region 8 with fail
    obtain ⟨K, At, kL, HM2⟩ : ∃ K At, MkL f a ac d dc w b5 K At F (F + T) (.slice none 0 0) (.slice none 0 0) (w3.setCell ⟨b5, 1, none⟩ (.int .i64 A1)) ∧ RowKit.Hid (makeL c f = ⟨K, At, F, F + T, (f.A.take 10).map cutA, f.D.take 10⟩) := ⟨_, _, HStep.out _, Lib.hid (by rw [HM.out]; rfl)⟩
    clear HM HStep hQg hQf hQc hFz hC W4 W5
    generalize w3.setCell ⟨b5, 1, none⟩ (.int .i64 A1) = w4 at *
  case' inr.inr =>
    subst h
    go_wp2_with fail
    refine (W5.out _).mono ?_
    rintro e wl ⟨rfl, rfl⟩
    go_upto_region 8 with fail
    obtain ⟨K, At, kL, HM2⟩ : ∃ K At, MkL f a ac d dc w b5 K At F (F + T) (.slice none 0 0) (.slice none 0 0) (w3.setCell ⟨b5, 1, none⟩ (.int .i64 A2)) ∧ RowKit.Hid (makeL c f = ⟨K, At, F, F + T, (f.A.take 10).map cutA, f.D.take 10⟩) := ⟨_, _, HStep.out _, Lib.hid (by rw [HM.out]; rfl)⟩
    clear HM HStep hQg hQf hQc hFz hC W4 W5
    generalize w3.setCell ⟨b5, 1, none⟩ (.int .i64 A2) = w4 at *
  all_goals
    have hg4 := kL.gb.lt
    go_wp2_with fail
    go_loopw [6] (fun i w' => ∃ (k : Nat) (v : Value), i = .int .i64 k ∧ k ≤ f.A.length ∧ k ≤ 10 ∧ MkL f a ac d dc w b5 K At F (F + T) v (.slice none 0 0) w' ∧ OwnA w4.heap.size w' v ((f.A.take k).map cutA) ∧ w4.heap.size ≤ w'.heap.size) (fun i _ => 10 - (intOf i).toNat)
    case atStart => exact ⟨0, _, rfl, by omega, by omega, kL, OwnA.nil _ _, Nat.le_refl _⟩
    case round =>
      clear kL
      obtain ⟨k, v, rfl, hk, hk10, kL, hown, hbig⟩ := hrel
      have hQf := kL.fb.at
      unfold faBox at hQf
      have hAr := hA.later kL.bel
      by_cases hlt : k < f.A.length ∧ k < 10
      · have d1 : decide (k < f.A.length) = true := by simpa using hlt.1
        have d2 : decide ((k : Int) < 10) = true := by simp; omega
        obtain ⟨b, off, rfl, hbl, c1, c2, c3, i1, i2, hT⟩ := hAr.get k hlt.1
        have HC := Lib.hid (cut_take f.A k hlt.1)
        have hll : ((f.A.take k).map cutA).length ≤ 10 := by simp; omega
        have hTeq : f.A[k].T.take (min (f.A[k].T.length : Int) 300).toNat = f.A[k].T.take 300 := take_min f.A[k].T
        have HT := Lib.hid (show cutA f.A[k] = ⟨f.A[k].H, f.A[k].N, f.A[k].T.take (min (f.A[k].T.length : Int) 300).toNat⟩ by rw [hTeq]; rfl)
        clear hTeq
        generalize f.A[k] = t at *
        generalize (f.A.take k).map cutA = TS at *
        obtain ⟨av, cv, rfl⟩ := hown.form
        go_upto_region 13 with fail
        have kB : Blk (wr.alloc (.cells #[.int .i64 t.H, .int .i64 t.N, .string ⟨(t.T.take (min (t.T.length : Int) 300).toNat).toArray⟩] 79)) wr.heap.size 79 #[.int .i64 t.H, .int .i64 t.N, .string ⟨(t.T.take (min (t.T.length : Int) 300).toNat).toArray⟩] := Blk.new wr _ _
        have kL2 := kL.next (alloc_below wr (.cells #[.int .i64 t.H, .int .i64 t.N, .string ⟨(t.T.take (min (t.T.length : Int) 300).toNat).toArray⟩] 79))
        have hown2 := hown.later (alloc_below wr (.cells #[.int .i64 t.H, .int .i64 t.N, .string ⟨(t.T.take (min (t.T.length : Int) 300).toNat).toArray⟩] 79))
        have hbig2 : w4.heap.size ≤ (wr.alloc (.cells #[.int .i64 t.H, .int .i64 t.N, .string ⟨(t.T.take (min (t.T.length : Int) 300).toNat).toArray⟩] 79)).heap.size := by simp; omega
        clear kL hown hQf hAr c1 c2 c3 hbl hbig
        generalize (t.T.take (min (t.T.length : Int) 300).toNat) = T' at *
        generalize wr.alloc (.cells #[.int .i64 t.H, .int .i64 t.N, .string ⟨T'.toArray⟩] 79) = wy at *
        generalize wr.heap.size = ab at *
        have hol := hown2.lt
        have hQb := kB.at
        have hQg := kL2.gb.at
        unfold MakeB at hQg
        have hFz := kL2.gb.frozen
        go_wp2_with (first
          | (at_builtin; have hx1 := hown2; refine wpList_appA _ rfl _ _ rfl w4.heap.size (.slice av TS.length cv) TS rfl (hown2.later (alloc_below _ _)) wy.heap.size 1 ⟨t.H, t.N, T'⟩ rfl (heap_alloc_new _ _) (by omega) (by simp; omega) ?_; intro g5 cap5 w5 ho2 hg2 h3 h4; replace kL2 := (kL2.next (alloc_below _ _)).grown hg2 (fun x e => by have := (hol x e).1; omega); clear hx1 hQg hFz hQb; have hQg := kL2.gb.at; unfold MakeB at hQg; have hFz := kL2.gb.frozen; have hs5 := hg2.size; clear hown2))
        go_roundw
        case rel =>
          refine ⟨k + 1, _, by go_num, by omega, by omega, kL2.set4 hg1 _, ?_, by simp [World.setCell] at hs5 ⊢; omega⟩
          rw [HC.out, HT.out]
          exact ho2.far ⟨b5, 4, none⟩ _ hg4
        case measure => simp [intOf]; omega
      · have hkk : k = min f.A.length 10 := by omega
        have HA1 := Lib.hid (show (f.A.take k).map cutA = (f.A.take 10).map cutA by
          rcases (by omega : k = f.A.length ∨ k = 10) with h | h
          · rw [h, List.take_of_length_le (Nat.le_refl _), List.take_of_length_le (by omega)]
          · rw [h])
        have dd : (decide (k < f.A.length) = false) ∨ (decide (k < f.A.length) = true ∧ decide ((k : Int) < 10) = false) := by
          by_cases h : k < f.A.length
          · exact .inr ⟨by simpa using h, by simp; omega⟩
          · exact .inl (by simpa using h)
        have hin : ∀ t ∈ (f.A.take k).map cutA, inI t.H ∧ inI t.N ∧ t.T.length ≤ 9223372036854775807 := by
          intro t ht
          obtain ⟨y, hy, rfl⟩ := List.mem_map.1 ht
          have := hA.2.1 y (List.mem_of_mem_take hy)
          exact ⟨this.1, this.2.1, by unfold cutA; simp; omega⟩
        have hll : ((f.A.take k).map cutA).length ≤ 10 := by simp; omega
        rw [← HA1.out] at HM2
        clear hkk HA1 hlt hAr hQf
        generalize (f.A.take k).map cutA = TS at *
        obtain ⟨av, cv, rfl⟩ := hown.form
        have hRA : RowA wr av TS := hown.row (by omega) hin
        have hol := hown.lt
        have hlA : ∀ x, av = some x → w4.heap.size ≤ x.block ∧ x.block < wr.heap.size := fun x hx => hol x.block (by rw [hx]; rfl)
        clear hown hol
        generalize wr = w5 at *
        rcases dd with d1 | ⟨d1, d2⟩
        all_goals
          have hQf := kL.fb.at
          unfold faBox at hQf
          go_wp2_with fail
          go_loopw [8] (fun i w' => ∃ (k : Nat) (v : Value), i = .int .i64 k ∧ k ≤ f.D.length ∧ k ≤ 10 ∧ MkL f a ac d dc w b5 K At F (F + T) (.slice av TS.length cv) v w' ∧ RowA w' av TS ∧ OwnI w5.heap.size w' v (f.D.take k) ∧ w5.heap.size ≤ w'.heap.size) (fun i _ => 10 - (intOf i).toNat)
          case atStart => exact ⟨0, _, rfl, by omega, by omega, kL, hRA, OwnI.nil _ _, Nat.le_refl _⟩
          case round =>
            have hg5 := kL.gb.lt
            clear kL hRA hQf d1
            try clear d2
            obtain ⟨k, v, rfl, hk, hk10, kL, hRA, hown, hbig⟩ := hrel
            have hQf := kL.fb.at
            unfold faBox at hQf
            have hDr := hD.later kL.bel
            have hinD : ∀ z ∈ f.D.take k, -9223372036854775808 ≤ z ∧ z ≤ 9223372036854775807 := fun z hz => hD.2.1 z (List.mem_of_mem_take hz)
            have hlD : (f.D.take k).length ≤ 10 := by simp; omega
            have hneA : TS = [] ∨ ∀ x, av = some x → x.block ≠ b5 := .inr fun x hx => by have := (hlA x hx).1; omega
            by_cases hlt : k < f.D.length ∧ k < 10
            · have d1 : decide (k < f.D.length) = true := by simpa using hlt.1
              have d2 : decide ((k : Int) < 10) = true := by simp; omega
              obtain ⟨b', off', rfl, hbl, c1, _, _⟩ := hDr.get k hlt.1
              have HC := Lib.hid (show f.D.take (k + 1) = f.D.take k ++ [f.D[k]'hlt.1] from List.take_succ_eq_append_getElem hlt.1)
              generalize f.D[k]'hlt.1 = z at *
              generalize f.D.take k = DS at *
              obtain ⟨uv, uc, rfl⟩ := hown.form
              have hol := hown.lt
              have t1 := hQf 5
              have t2 := kL.gb.at 5
              have t3 := fun o : Obj => (Blk.alloc (w := wr.drew) kL.gb o).at 5
              have t4 : ∀ o : Obj, (wr.alloc o).drew.cell? ⟨b5, 5, none⟩ = _ := fun o => (Blk.alloc kL.gb o).drew1.at 5
              have t5 : ∀ o : Obj, (wr.alloc o).cell? ⟨b5, 5, none⟩ = _ := fun o => (Blk.alloc kL.gb o).at 5
              have g0 : (0 : Int) ≤ (k : Int) := by omega
              have g1 : (k : Int) < (f.D.length : Int) := by omega
              unfold MakeB at t2 t3 t4 t5
              simp at t1 t2 t3 t4 t5
              go_wp2_with fail
              go_region_law (first
                | (refine step_app1 _ (by rfl) (.tmp 84) (.tmp 90) (by rfl) w5.heap.size (.slice uv DS.length uc) DS (by simp [Act.eval]) (hown.later ((Below.refl _ _).drew.alloc (by simp) _)) wr.heap.size 1 z (by simp [Act.eval]) (heap_alloc_new _ _) (by omega) (by simp; omega) ?_; intro g' cap' w2' h1' h2' h3' h4'; have kw := (MkL.next (kL.next (Below.refl _ _).drew) (alloc_below _ _)).grown h2' (fun x e => by have := (hol x e).1; omega); have q3w := kw.gb.at 5; have f3w := kw.gb.frozen 5; unfold MakeB at q3w))
              all_goals
                go_wp2
                go_roundw
                case rel =>
                  refine ⟨k + 1, _, by go_num, by omega, by omega, kw.set5 hg1 _, ?_, ?_, ?_⟩
                  · exact ((((hRA.drew1).alloc _).grown h2' (.inr fun x hx e => by have := (hol _ e.symm).1; have := (hlA x hx).2; omega)).far2 b5 5 _ hneA)
                  · rw [HC.out]
                    exact h1'.far ⟨b5, 5, none⟩ _ hg5
                  · have := h2'.size; simp [World.setCell] at this ⊢; omega
                case measure => simp [intOf]; omega
            · have HD1 := Lib.hid (show f.D.take k = f.D.take 10 by
                rcases (by omega : k = f.D.length ∨ k = 10) with h | h
                · rw [h, List.take_of_length_le (Nat.le_refl _), List.take_of_length_le (by omega)]
                · rw [h])
              have dd : (decide (k < f.D.length) = false) ∨ (decide (k < f.D.length) = true ∧ decide ((k : Int) < 10) = false) := by
                by_cases h : k < f.D.length
                · exact .inr ⟨by simpa using h, by simp; omega⟩
                · exact .inl (by simpa using h)
              rw [← HD1.out] at HM2
              clear HD1 hlt hDr
              generalize f.D.take k = DS at *
              obtain ⟨uv, uc, rfl⟩ := hown.form
              have hRD : Row wr uv DS := hown.row (by omega) hinD
              have hol := hown.lt
              have hlU : ∀ x, uv = some x → w5.heap.size ≤ x.block := fun x hx => (hol x.block (by rw [hx]; rfl)).1
              have hQg := kL.gb.at
              unfold MakeB at hQg
              have hQz := kL.zb.at
              unfold zeroL at hQz
              have hFz := kL.zb.frozen
              rcases dd with d1 | ⟨d1, d2⟩
              all_goals
                go_wp2
                obtain ⟨kk, hb2, hr2, hd2⟩ := fa_end ⟨K, At, F, F + T, TS, DS⟩ w wr (w.heap.size + 2) av cv uv uc kL.bel (by omega) kL.zb hRA hRD (.inr fun x hx => by have := (hlA x hx).1; omega) (.inr fun x hx => by have := hlU x hx; omega)
                have q := kk.at
                unfold faBox at q
                simp at q
                refine bodyPost_ret (v := .agg #[.int .i64 (⟨K, At, F, F + T, TS, DS⟩ : Fa).K, .int .i64 (⟨K, At, F, F + T, TS, DS⟩ : Fa).At, .int .i64 (⟨K, At, F, F + T, TS, DS⟩ : Fa).F, .int .i64 (⟨K, At, F, F + T, TS, DS⟩ : Fa).To, .slice av (⟨K, At, F, F + T, TS, DS⟩ : Fa).A.length cv, .slice uv (⟨K, At, F, F + T, TS, DS⟩ : Fa).D.length uc]) (by simp [results, Tryz.results36, go_sem, q]) rfl ?_
                rw [HM2.out]
                exact ⟨av, cv, uv, uc, rfl, hr2, hd2, fun x hx => by have := (hlA x hx).1; omega, fun x hx => by have := hlU x hx; omega, hb2⟩

end Go.Proofs.YthhmedlefahccaaGreatDoor
/-
  plaitinglaw9's calm: a case of a node's own slot.
-/
namespace Go.Proofs.YthhmedlefahccaaGreatDoor
open Go.RowKit Plait
set_option maxRecDepth 100000
set_option linter.unusedVariables false
set_option linter.unusedSimpArgs false

/-- A case's box while it is being made: the last three rows' values. -/
def csB (g : Cf) (ga : Option Addr) (gc : Nat) (f : Fa) (fa : Option Addr) (fac : Nat) (fd : Option Addr) (fdc : Nat) (r s d : Int) (q v u : Value) : Array Value :=
  #[.int .i64 g.N, .int .i64 g.Pi, .int .i64 g.E, .int .i64 g.G, .int .i64 g.F, .slice ga g.P.length gc, .int .i64 f.K, .int .i64 f.At, .int .i64 f.F, .int .i64 f.To, .slice fa f.A.length fac, .slice fd f.D.length fdc, .int .i64 r, .int .i64 s, .int .i64 d, q, v, u]

/-- What a call answers that makes a case. -/
def CsRet (x : Cs) (w : World) (e : Ending) (w' : World) : Prop :=
  ∃ (a : Ca) (base : Nat), e = .returned (.agg #[.int .i64 x.c.N, .int .i64 x.c.Pi, .int .i64 x.c.E, .int .i64 x.c.G, .int .i64 x.c.F, .slice a.ca x.c.P.length a.cc, .int .i64 x.f.K, .int .i64 x.f.At, .int .i64 x.f.F, .int .i64 x.f.To, .slice a.fa x.f.A.length a.fac, .slice a.fd x.f.D.length a.fdc, .int .i64 x.r, .int .i64 x.s, .int .i64 x.d, .slice a.sa x.sends.length a.sc, .slice a.ta x.st.length a.tc, .slice a.va x.dv.length a.vc]) ∧ CsM x a w' ∧ w.heap.size ≤ base ∧ OwnI base w' (.slice a.ta x.st.length a.tc) x.st ∧ OwnI base w' (.slice a.va x.dv.length a.vc) x.dv ∧
    (∀ p q, a.ta = some p → a.va = some q → p.block ≠ q.block) ∧ (x.c.P = [] ∨ ∀ p, a.ca = some p → p.block < base) ∧ (x.f.A = [] ∨ ∀ p, a.fa = some p → p.block < base) ∧ (x.f.D = [] ∨ ∀ p, a.fd = some p → p.block < base) ∧ (x.sends = [] ∨ ∀ p, a.sa = some p → p.block < base) ∧ Below w.heap.size w w'

theorem RowS.lt {w : World} {a : Option Addr} {ts : List (List UInt8)} (h : RowS w a ts) : ts = [] ∨ ∀ x, a = some x → x.block < w.heap.size := by
  rcases h.2 with h3 | ⟨b, off, rfl, hlt, _⟩
  · exact .inl h3
  · exact .inr fun x hx => by injection hx with hx; subst hx; exact hlt
theorem Row.twoLt {w w' : World} {a : Option Addr} {zs : List Int} {b1 b2 : Nat} (h : Row w a zs) (hp : zs = [] ∨ ∀ x, a = some x → x.block ≠ b1 ∧ x.block ≠ b2) (ht : Two b1 b2 w w') : Row w' a zs := by
  refine h.two ?_ ht
  rcases hp with e | hp
  · exact .inl e
  · rcases h.2.2 with e | ⟨b, off, e, _⟩
    · exact .inl e
    · have := hp _ e
      exact .inr ⟨b, off, e, this.1, this.2⟩
theorem RowA.two {w w' : World} {a : Option Addr} {ts : List Ac} {b1 b2 : Nat} (h : RowA w a ts) (hp : ts = [] ∨ ∀ x, a = some x → x.block ≠ b1 ∧ x.block ≠ b2) (ht : Two b1 b2 w w') : RowA w' a ts := by
  obtain ⟨h1, h2, h3⟩ := h
  refine ⟨h1, h2, ?_⟩
  rcases hp with e | hp
  · exact .inl e
  · rcases h3 with h3 | ⟨b, off, rfl, hlt, hc⟩
    · exact .inl h3
    · have := hp _ rfl
      exact .inr ⟨b, off, rfl, Nat.lt_of_lt_of_le hlt ht.1, fun i hi => ⟨by rw [ht.cell b _ hlt this.1 this.2]; exact (hc i hi).1, by rw [ht.cell b _ hlt this.1 this.2]; exact (hc i hi).2.1, by rw [ht.cell b _ hlt this.1 this.2]; exact (hc i hi).2.2⟩⟩
theorem RowS.two {w w' : World} {a : Option Addr} {ts : List (List UInt8)} {b1 b2 : Nat} (h : RowS w a ts) (hp : ts = [] ∨ ∀ x, a = some x → x.block ≠ b1 ∧ x.block ≠ b2) (ht : Two b1 b2 w w') : RowS w' a ts := by
  obtain ⟨h1, h3⟩ := h
  refine ⟨h1, ?_⟩
  rcases hp with e | hp
  · exact .inl e
  · rcases h3 with h3 | ⟨b, off, rfl, hlt, hc⟩
    · exact .inl h3
    · have := hp _ rfl
      exact .inr ⟨b, off, rfl, Nat.lt_of_lt_of_le hlt ht.1, fun i hi => by rw [ht.cell b _ hlt this.1 this.2]; exact hc i hi⟩

/-- Two rows that are being made, and the case's box: wl, the world at the loop's start. -/
structure PairR (w wl : World) (xb : Nat) (bx : Value → Value → Array Value) (ss ds : List Int) (v u : Value) (W : World) : Prop where
  hB : Below w.heap.size w W
  two : Two xb xb wl W
  box : Blk W xb 37 (bx v u)
  ov : OwnI wl.heap.size W v ss
  ou : OwnI wl.heap.size W u ds
  apart : ∀ p q, v.ownBlock = some p → u.ownBlock = some q → p ≠ q

theorem PairR.later {w wl : World} {xb : Nat} {bx : Value → Value → Array Value} {ss ds : List Int} {v u : Value} {W W' : World} (h : PairR w wl xb bx ss ds v u W) (hb : Below W.heap.size W W') : PairR w wl xb bx ss ds v u W' :=
  ⟨h.hB.trans (hb.mono h.hB.size), h.two.trans (Two.of hb (Nat.le_refl _)), h.box.later hb, h.ov.later hb, h.ou.later hb, h.apart⟩

/-- One number more behind the first row. -/
theorem PairR.app1 {w wl : World} {xb : Nat} {bx : Value → Value → Array Value} {ss ds ss' : List Int} {v u v' : Value} {W W' : World} {g : Nat} (h : PairR w wl xb bx ss ds v u W) (hx : xb < wl.heap.size) (hwl : w.heap.size ≤ wl.heap.size)
    (ho : OwnI wl.heap.size W' v' ss') (hg : W.grownBy W' v.ownBlock) (hgb : v'.ownBlock = some g) (hgg : v.ownBlock = some g ∨ g = W.heap.size) :
    Below w.heap.size w W' ∧ Two xb xb wl W' ∧ Blk W' xb 37 (bx v u) ∧ OwnI wl.heap.size W' u ds ∧ ∀ p q, v'.ownBlock = some p → u.ownBlock = some q → p ≠ q := by
  have hlv := h.ov.lt
  have hlu := h.ou.lt
  have hs := h.two.1
  refine ⟨below_grown h.hB h.hB.size hg (fun k e => by have := (hlv k e).1; omega), ⟨Nat.le_trans hs hg.size, fun i hi h1 h2 => ?_⟩, h.box.grown hg (fun e => by have := (hlv xb e.symm).1; omega), ?_, fun p q hp hq => ?_⟩
  · rw [hg.block i (by omega) (fun e => by have := (hlv i e.symm).1; omega)]
    exact h.two.2 i hi h1 h2
  · refine World.ownsRow.kept (row := v.ownBlock) h.ou hg ?_
    cases hu : u.ownBlock with
    | none => exact .inl rfl
    | some k => exact .inr fun e => h.apart k k (by first | exact e | exact e.symm) hu rfl
  · rw [hgb] at hp
    injection hp with hp
    subst hp
    rcases hgg with e | e
    · exact h.apart g q e hq
    · have := (hlu q hq).2
      omega
/-- One number more behind the second one. -/
theorem PairR.app2 {w wl : World} {xb : Nat} {bx : Value → Value → Array Value} {ss ds ds' : List Int} {v u u' v' : Value} {W W' : World} {g : Nat} (hB : Below w.heap.size w W) (two : Two xb xb wl W) (box : Blk W xb 37 (bx v u)) (hv : OwnI wl.heap.size W v' ss) (hu : OwnI wl.heap.size W u ds) (hap : ∀ p q, v'.ownBlock = some p → u.ownBlock = some q → p ≠ q)
    (hx : xb < wl.heap.size) (hxw : w.heap.size ≤ xb) (hwl : w.heap.size ≤ wl.heap.size) (hbx : ∀ v u v' u', ((bx v u).setIfInBounds 16 v').setIfInBounds 17 u' = bx v' u')
    (ho : OwnI wl.heap.size W' u' ds') (hg : W.grownBy W' u.ownBlock) (hgb : u'.ownBlock = some g) (hgg : u.ownBlock = some g ∨ g = W.heap.size) :
    PairR w wl xb bx ss ds' v' u' ((W'.setCell ⟨xb, 16, none⟩ v').setCell ⟨xb, 17, none⟩ u') := by
  have hlv := hv.lt
  have hlu := hu.lt
  have hs := two.1
  have h1 : Below w.heap.size w W' := below_grown hB hB.size hg (fun k e => by have := (hlu k e).1; omega)
  have e1 : Two xb xb wl W' := ⟨Nat.le_trans hs hg.size, fun i hi h1 h2 => by
    rw [hg.block i (by omega) (fun e => by have := (hlu i e.symm).1; omega)]
    exact two.2 i hi h1 h2⟩
  have e2 : Blk W' xb 37 (bx v u) := box.grown hg (fun e => by have := (hlu xb e.symm).1; omega)
  have e3 : OwnI wl.heap.size W' v' ss := by
    refine World.ownsRow.kept (row := u.ownBlock) hv hg ?_
    cases hv' : v'.ownBlock with
    | none => exact .inl rfl
    | some k => exact .inr fun e => hap k k hv' (by first | exact e | exact e.symm) rfl
  have ne : ∀ (z : Value) (zs : List Int) (W : World) (h : OwnI wl.heap.size W z zs) (k : Nat) (x : Value), OwnI wl.heap.size (W.setCell ⟨xb, k, none⟩ x) z zs := fun z zs W h k x => h.far ⟨xb, k, none⟩ x hx
  refine ⟨((h1.setCell (p := ⟨xb, 16, none⟩) hxw v').setCell (p := ⟨xb, 17, none⟩) hxw u'), ?_, ?_, ?_, ?_, ?_⟩
  · exact (e1.trans (setCell_off xb 16 v' W' xb xb (.inl rfl))).trans (setCell_off xb 17 u' _ xb xb (.inl rfl))
  · have := (e2.set 16 v').set 17 u'
    rw [hbx] at this
    exact this
  · exact (ne _ _ _ (ne _ _ _ e3 16 v') 17 u')
  · exact (ne _ _ _ (ne _ _ _ ho 16 v') 17 u')
  · intro p q hp hq
    rw [hgb] at hq
    injection hq with hq
    subst hq
    rcases hgg with e | e
    · exact hap p g hp e
    · have := (hlv p hp).2
      omega

theorem OwnI.only {base b : Nat} {W W' : World} {v : Value} {zs : List Int} (h : OwnI base W v zs) (hO : Only b W W') (hb : b < base) : OwnI base W' v zs := by
  refine World.ownsRow.kept (row := some b) h ⟨hO.os, hO.tape, hO.output, by rw [hO.size]; exact Nat.le_refl _, fun k _ hne => hO.rest k (fun e => hne (by rw [e]))⟩ ?_
  cases hv : v.ownBlock with
  | none => exact .inl rfl
  | some g =>
    refine .inr (fun e => ?_)
    have := (h.lt g hv).1
    injection e with e
    omega
theorem Only.two {b : Nat} {W W' : World} (h : Only b W W') : Two b b W W' := ⟨by rw [h.size]; exact Nat.le_refl _, fun i _ h1 _ => h.rest i h1⟩

theorem Only.row (w : World) (g : Nat) (cs : Array Value) : Only g w (w.setRow g cs) := ⟨rfl, rfl, rfl, by simp, fun m hm => setRow_other w g m cs hm⟩
theorem Blk.row {w : World} {g : Nat} {t : TypeId} {old : Array Value} (h : Blk w g t old) (cs : Array Value) : Blk (w.setRow g cs) g t cs := setRow_heap w g old cs t (0, 0) h

/-- A case laid into a result's place. -/
theorem case_end (x : Cs) (a : Ca) (w wr W' : World) (zb base : Nat) (hO : Only zb wr W') (hB : Below w.heap.size w wr) (lz : w.heap.size ≤ zb) (zl : zb < base) (hwb : w.heap.size ≤ base)
    (hP : Row wr a.ca x.c.P) (hA : RowA wr a.fa x.f.A) (hD : Row wr a.fd x.f.D) (hS : RowS wr a.sa x.sends) (hT : ∀ z ∈ x.st, -9223372036854775808 ≤ z ∧ z ≤ 9223372036854775807) (hV : ∀ z ∈ x.dv, -9223372036854775808 ≤ z ∧ z ≤ 9223372036854775807) (lt : x.st.length ≤ 12) (lv : x.dv.length ≤ 12)
    (o1 : OwnI base wr (.slice a.ta x.st.length a.tc) x.st) (o2 : OwnI base wr (.slice a.va x.dv.length a.vc) x.dv) (ap : ∀ p q, (Value.slice a.ta x.st.length a.tc).ownBlock = some p → (Value.slice a.va x.dv.length a.vc).ownBlock = some q → p ≠ q)
    (nP : x.c.P = [] ∨ ∀ p, a.ca = some p → p.block < base ∧ p.block ≠ zb) (nA : x.f.A = [] ∨ ∀ p, a.fa = some p → p.block < base ∧ p.block ≠ zb) (nD : x.f.D = [] ∨ ∀ p, a.fd = some p → p.block < base ∧ p.block ≠ zb) (nS : x.sends = [] ∨ ∀ p, a.sa = some p → p.block < base ∧ p.block ≠ zb) :
    CsRet x w (.returned (.agg #[.int .i64 x.c.N, .int .i64 x.c.Pi, .int .i64 x.c.E, .int .i64 x.c.G, .int .i64 x.c.F, .slice a.ca x.c.P.length a.cc, .int .i64 x.f.K, .int .i64 x.f.At, .int .i64 x.f.F, .int .i64 x.f.To, .slice a.fa x.f.A.length a.fac, .slice a.fd x.f.D.length a.fdc, .int .i64 x.r, .int .i64 x.s, .int .i64 x.d, .slice a.sa x.sends.length a.sc, .slice a.ta x.st.length a.tc, .slice a.va x.dv.length a.vc])) W' := by
  have h1 := o1.only hO zl
  have h2 := o2.only hO zl
  have ht := hO.two
  refine ⟨a, base, rfl, ⟨hP.twoLt (nP.imp id fun q p e => ⟨(q p e).2, (q p e).2⟩) ht, hA.two (nA.imp id fun q p e => ⟨(q p e).2, (q p e).2⟩) ht, hD.twoLt (nD.imp id fun q p e => ⟨(q p e).2, (q p e).2⟩) ht, hS.two (nS.imp id fun q p e => ⟨(q p e).2, (q p e).2⟩) ht, h1.row (by omega) hT, h2.row (by omega) hV⟩,
    hwb, h1, h2, fun p q e1 e2 => ap p.block q.block (by rw [e1]; rfl) (by rw [e2]; rfl), nP.imp id fun q p e => (q p e).1, nA.imp id fun q p e => (q p e).1, nD.imp id fun q p e => (q p e).1, nS.imp id fun q p e => (q p e).1, hO.below hB lz⟩

theorem PairR.drew {w wl : World} {xb : Nat} {bx : Value → Value → Array Value} {ss ds : List Int} {v u : Value} {W : World} (h : PairR w wl xb bx ss ds v u W) : PairR w wl xb bx ss ds v u W.drew := h.later (Below.refl _ _).drew

end Go.Proofs.YthhmedlefahccaaGreatDoor
/-
  A node's own slot: what a run answers, by how far a node is.
-/
namespace Go.Proofs.YthhmedlefahccaaGreatDoor
open Go.RowKit Plait
set_option maxRecDepth 100000
set_option linter.unusedVariables false

/-- The slot's, of a case. -/
def Cs.sp (x : Cs) : Sp := spOf x.c x.f x.r x.s x.d x.sends x.st x.dv

theorem Cs.Ok.call {x : Cs} (h : x.Ok) (ho : owners x.c x.s ≠ []) : CallOk x.c x.s x.d x.sends := ⟨h.c, h.d, h.s0, ho, h.sl, h.sk⟩

theorem own_one (c : Cf) (s : Int) (s0 : 0 ≤ s) (h : s < c.N) : owners c s = [s] := owners_node c s ((nodeB_iff c s).2 ⟨s0, h⟩)

/-- How far a node is, and back. -/
theorem dist_nd {x : Cs} (h : x.Ok) (hs : x.s < x.c.N) (m : Nat) (hm : (m : Int) < x.c.N) : distI x.c.N x.s (x.sp.nd m) x.d = m := by
  have n6 := h.c.n6
  have e : x.sp.nd m = (x.s + x.d * m) % x.c.N := by
    show (lastI (owners x.c x.s) x.d + x.d * m) % x.c.N = _
    rw [own_one x.c x.s h.s0 hs]
    have : lastI [x.s] x.d = x.s := by unfold lastI; split <;> rfl
    rw [this]
  rw [e]
  unfold distI
  rcases h.d with hd | hd
  · rw [hd, if_neg (by omega), Int.one_mul, Int.sub_emod, Int.emod_emod, ← Int.sub_emod, show x.s + (m : Int) - x.s = m by omega]
    exact Int.emod_eq_of_lt (by omega) hm
  · rw [hd, if_pos (by omega), Int.sub_emod, Int.emod_emod, ← Int.sub_emod, show x.s - (x.s + -1 * (m : Int)) = m by omega]
    exact Int.emod_eq_of_lt (by omega) hm

theorem Cs.sp_ok {x : Cs} (h : x.Ok) (hs : x.s < x.c.N) : x.sp.Ok := spOf_ok (h.call (by rw [own_one x.c x.s h.s0 hs]; simp))
theorem Cs.sp_pair {x : Cs} (h : x.Ok) (hs : x.s < x.c.N) : x.sp.pair = false := by
  have : x.sp.pair = decide (x.c.N ≤ x.s) := spOf_pair (h.call (by rw [own_one x.c x.s h.s0 hs]; simp))
  rw [this]; simp; omega
theorem Cs.sp_snd {x : Cs} (h : x.Ok) (hs : x.s < x.c.N) : x.sp.snd = x.sends.getD 0 [] := by
  show (if x.d < 0 then x.sends.getD 0 [] else x.sends.getD ((owners x.c x.s).length - 1) []) = _
  rw [own_one x.c x.s h.s0 hs]
  split <;> rfl
theorem Cs.sp_nd0 {x : Cs} (h : x.Ok) (hs : x.s < x.c.N) : x.sp.nd 0 = x.s := by
  rw [Sp.nd_zero (x.sp_ok h hs)]
  show lastI (owners x.c x.s) x.d = x.s
  rw [own_one x.c x.s h.s0 hs]
  unfold lastI; split <;> rfl

/-- Each node's place. -/
theorem place {x : Cs} (h : x.Ok) (hs : x.s < x.c.N) (i : Int) (i0 : 0 ≤ i) (i1 : i < x.c.N) : ∃ m : Nat, (m : Int) < x.c.N ∧ x.sp.nd m = i ∧ distI x.c.N x.s i x.d = m := by
  obtain ⟨m, hm, e⟩ := Sp.nd_of (x.sp_ok h hs) i ⟨i0, i1⟩
  exact ⟨m, hm, e, by rw [← e]; exact dist_nd h hs m hm⟩

/-- What a run answers of a node. -/
theorem own_end {x : Cs} (h : x.Ok) (hs : x.s < x.c.N) (i : Nat) (hi : (i : Int) < x.c.N) : ∃ m : Nat, (m : Int) < x.c.N ∧ x.sp.nd m = i ∧ distI x.c.N x.s i x.d = m ∧ (x.end i).O = x.sp.o m ∧ (x.end i).F = m ∧ (0 < m → x.end i = x.sp.sd (m - 1)) := by
  obtain ⟨m, hm, e, hd⟩ := place h hs i (by omega) hi
  have hh := end_own (f := x.f) (r := x.r) (st := x.st) (dv := x.dv) (h.call (by rw [own_one x.c x.s h.s0 hs]; simp)) hs m hm
  have e' : (spOf x.c x.f x.r x.s x.d x.sends x.st x.dv).nd m = i := e
  rw [e', Int.toNat_natCast] at hh
  exact ⟨m, hm, e, hd, hh.1, hh.2.1, hh.2.2⟩

/-- All active and in step. -/
theorem calm_on {x : Cs} (h : x.Ok) (hs : x.s < x.c.N) (ht : x.st = List.replicate x.c.N.toNat 4) (hv : x.dv = List.replicate x.c.N.toNat 0) : x.sp.On := by
  have ok := x.sp_ok h hs
  have n6 := h.c.n6
  have key : ∀ k : Int, x.sp.st (x.sp.nd k) = 4 ∧ x.sp.dv (x.sp.nd k) = 0 := by
    intro k
    have i := x.sp.nd_in ok k
    have i1 : x.sp.nd k < x.c.N := i.2
    have l : (x.sp.nd k).toNat < x.c.N.toNat := by omega
    refine ⟨?_, ?_⟩
    · show x.st.getD (x.sp.nd k).toNat 0 = 4
      rw [ht, List.getD_eq_getElem?_getD, List.getElem?_replicate_of_lt l]; rfl
    · show x.dv.getD (x.sp.nd k).toNat 0 = 0
      rw [hv, List.getD_eq_getElem?_getD, List.getElem?_replicate_of_lt l]; rfl
  refine ⟨fun k => by rw [(key k).1]; decide, ?_⟩
  rw [(key 1).1, (key 1).2]
  have p0 := h.c.p0; have e0 := h.c.e0; have g0 := h.c.g0
  show admitB x.c 4 0 = true
  unfold admitB
  have : windowI x.c = 2 * x.c.Pi := rfl
  simp
  omega

/-- SpreadCut: behind a silent node there is nothing. -/
theorem cut_end {x : Cs} (h : x.Ok) (hs : x.s < x.c.N) (ht : x.st = List.replicate x.c.N.toNat 4) (hv : x.dv = List.replicate x.c.N.toNat 0) (hK : x.f.K = 1) (hA : x.f.A = []) (hr : x.r < x.f.To) (a0 : 0 ≤ x.f.At) (a1 : x.f.At < x.c.N) (i : Nat) (hi : (i : Int) < x.c.N) :
    (x.end i).O = if distI x.c.N x.s x.f.At x.d < distI x.c.N x.s i x.d then [] else x.sends.getD 0 [] := by
  obtain ⟨m, hm, e, hd, hO, _, _⟩ := own_end h hs i hi
  obtain ⟨p, hp, ep, hdp⟩ := place h hs x.f.At a0 a1
  have := Sp.cut (x.sp_ok h hs) (x.sp_pair h hs) (calm_on h hs ht hv) hK hA hr p hp ep m hm
  rw [hO, this, hd, hdp, Cs.sp_snd h hs]
  by_cases q : p < m
  · rw [if_pos q, if_pos (by omega)]
  · rw [if_neg q, if_neg (by omega)]

theorem dist_self (n s d : Int) : distI n s s d = 0 := by
  unfold distI
  split <;> simp
theorem dist_pos {x : Cs} (h : x.Ok) (hs : x.s < x.c.N) (i : Nat) (hi : (i : Int) < x.c.N) (hne : (i : Int) ≠ x.s) : 0 < distI x.c.N x.s i x.d := by
  obtain ⟨m, hm, e, hd⟩ := place h hs i (by omega) hi
  rw [hd]
  rcases Nat.eq_zero_or_pos m with q | q
  · subst q
    have := Cs.sp_nd0 h hs
    have e' : x.sp.nd 0 = i := e
    omega
  · omega

end Go.Proofs.YthhmedlefahccaaGreatDoor

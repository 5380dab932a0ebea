/-
  Contracts of the reference's chapter 10: a side's compared copy, and what is taken of two sides.
-/
import Derived.Test.YtkflijbhlibadabDoorK10
namespace Go.Proofs.YtkflijbhlibadabDoor
open Go.RowKit Plait
set_option maxRecDepth 100000
set_option linter.unusedVariables false
set_option linter.unusedSimpArgs false

/-- A frame and whether it is one, in a drawn region. -/
def rbF (B : Nat) (g : Fr) (q : Bool) : Fact := fun v Z W => ∃ a cap, v = .tuple #[.agg #[.int .i64 g.K, .int .i64 g.R, .int .i64 g.S, .int .i64 g.P.K, .int .i64 g.P.V, .slice a g.E.length cap], .bool q] ∧ RowT W a g.E ∧ (g.E = [] ∨ Ft B Z a)
theorem rbF_good (B : Nat) (g : Fr) (q : Bool) : Good B (rbF B g q) := fun v Z W W' ⟨a, cap, e, hr, hf⟩ hA => ⟨a, cap, e, hr.agree hf hA, hf⟩

/-- The same, and that its row is new. -/
def rbNF (B : Nat) (g : Fr) (q : Bool) : Fact := fun v Z W => ∃ a cap, v = .tuple #[.agg #[.int .i64 g.K, .int .i64 g.R, .int .i64 g.S, .int .i64 g.P.K, .int .i64 g.P.V, .slice a g.E.length cap], .bool q] ∧ RowT W a g.E ∧ (g.E = [] ∨ Ft B Z a) ∧ (∀ x, a = some x → B ≤ x.block)
theorem rbNF_good (B : Nat) (g : Fr) (q : Bool) : Good B (rbNF B g q) := fun v Z W W' ⟨a, cap, e, hr, hf, hn⟩ hA => ⟨a, cap, e, hr.agree hf hA, hf, hn⟩
def frNF (B : Nat) (g : Fr) : Fact := fun v Z W => ∃ a cap, v = .agg #[.int .i64 g.K, .int .i64 g.R, .int .i64 g.S, .int .i64 g.P.K, .int .i64 g.P.V, .slice a g.E.length cap] ∧ RowT W a g.E ∧ (g.E = [] ∨ Ft B Z a) ∧ (∀ x, a = some x → B ≤ x.block)
theorem frNF_good (B : Nat) (g : Fr) : Good B (frNF B g) := fun v Z W W' ⟨a, cap, e, hr, hf, hn⟩ hA => ⟨a, cap, e, hr.agree hf hA, hf, hn⟩


/-- The last step: the frame is laid into the result's place. -/
theorem rcomp_end (f : Fr) (b : Bool) (w wr : World) (av : Option Addr) (cv : Nat) (old : Array Value) (h6 : old.size = 6) (hB : Below w.heap.size w wr) (k2 : Blk wr (w.heap.size + 1 + 1) 29 old) (hr : RowT wr av f.E) (hn : ∀ x, av = some x → w.heap.size + 1 + 1 < x.block) {p : Fr × Bool} (hp : p = (f, b)) {a : Act}
    (h4 : a.tmps[8]? = some (.pointer (some ⟨w.heap.size + 1 + 1, 0, none⟩)) := by rfl) (h5 : a.tmps[9]? = some (.bool b) := by rfl) (hd : a.defers = [] := by rfl) :
    bodyPost Tryd.prog Tryd.f39 (RightRet p w) Exit.ret a
      ((((((wr.setCell ⟨w.heap.size + 1 + 1, 0, none⟩ (.int .i64 f.K)).setCell ⟨w.heap.size + 1 + 1, 1, none⟩ (.int .i64 f.R)).setCell ⟨w.heap.size + 1 + 1, 2, none⟩ (.int .i64 f.S)).setCell
        ⟨w.heap.size + 1 + 1, 3, none⟩ (.int .i64 f.P.K)).setCell ⟨w.heap.size + 1 + 1, 4, none⟩ (.int .i64 f.P.V)).setCell ⟨w.heap.size + 1 + 1, 5, none⟩ (.slice av f.E.length cv)) := by
  subst hp
  have kk := blk_set6 k2 h6 (.int .i64 f.K) (.int .i64 f.R) (.int .i64 f.S) (.int .i64 f.P.K) (.int .i64 f.P.V) (.slice av f.E.length cv)
  have hb2 := below_set6 (g := w.heap.size + 1 + 1) hB (by omega) (.int .i64 f.K) (.int .i64 f.R) (.int .i64 f.S) (.int .i64 f.P.K) (.int .i64 f.P.V) (.slice av f.E.length cv)
  have ho := right_far (w := w) (cv := cv) hr (.inr fun x hx => by have := hn x hx; omega) (g := w.heap.size + 1 + 1) (.int .i64 f.K) (.int .i64 f.R) (.int .i64 f.S) (.int .i64 f.P.K) (.int .i64 f.P.V) (.slice av f.E.length cv)
  generalize (((((wr.setCell _ _).setCell _ _).setCell _ _).setCell _ _).setCell _ _).setCell _ _ = W at *
  have q := kk.at
  simp at q
  refine bodyPost_ret (v := .tuple #[.agg #[.int .i64 f.K, .int .i64 f.R, .int .i64 f.S, .int .i64 f.P.K, .int .i64 f.P.V, .slice av f.E.length cv], .bool b]) (by simp [results, Tryd.results39, go_sem, h4, h5, q]) hd ⟨av, cv, rfl, ho, ?_, hb2⟩
  intro x hx
  have := hn x hx
  omega

/-- The last step: the frame is laid into the result's place. -/
theorem rpick_end (f : Fr) (b : Bool) (w wr : World) (av : Option Addr) (cv : Nat) (old : Array Value) (h6 : old.size = 6) (hB : Below w.heap.size w wr) (k2 : Blk wr (w.heap.size + 1 + 1 + 1) 29 old) (hr : RowT wr av f.E) (hn : ∀ x, av = some x → w.heap.size + 1 + 1 + 1 < x.block) {p : Fr × Bool} (hp : p = (f, b)) {a : Act}
    (h4 : a.tmps[10]? = some (.pointer (some ⟨w.heap.size + 1 + 1 + 1, 0, none⟩)) := by rfl) (h5 : a.tmps[11]? = some (.bool b) := by rfl) (hd : a.defers = [] := by rfl) :
    bodyPost Tryd.prog Tryd.f22 (RightRet p w) Exit.ret a
      ((((((wr.setCell ⟨w.heap.size + 1 + 1 + 1, 0, none⟩ (.int .i64 f.K)).setCell ⟨w.heap.size + 1 + 1 + 1, 1, none⟩ (.int .i64 f.R)).setCell ⟨w.heap.size + 1 + 1 + 1, 2, none⟩ (.int .i64 f.S)).setCell
        ⟨w.heap.size + 1 + 1 + 1, 3, none⟩ (.int .i64 f.P.K)).setCell ⟨w.heap.size + 1 + 1 + 1, 4, none⟩ (.int .i64 f.P.V)).setCell ⟨w.heap.size + 1 + 1 + 1, 5, none⟩ (.slice av f.E.length cv)) := by
  subst hp
  have kk := blk_set6 k2 h6 (.int .i64 f.K) (.int .i64 f.R) (.int .i64 f.S) (.int .i64 f.P.K) (.int .i64 f.P.V) (.slice av f.E.length cv)
  have hb2 := below_set6 (g := w.heap.size + 1 + 1 + 1) hB (by omega) (.int .i64 f.K) (.int .i64 f.R) (.int .i64 f.S) (.int .i64 f.P.K) (.int .i64 f.P.V) (.slice av f.E.length cv)
  have ho := right_far (w := w) (cv := cv) hr (.inr fun x hx => by have := hn x hx; omega) (g := w.heap.size + 1 + 1 + 1) (.int .i64 f.K) (.int .i64 f.R) (.int .i64 f.S) (.int .i64 f.P.K) (.int .i64 f.P.V) (.slice av f.E.length cv)
  generalize (((((wr.setCell _ _).setCell _ _).setCell _ _).setCell _ _).setCell _ _).setCell _ _ = W at *
  have q := kk.at
  simp at q
  refine bodyPost_ret (v := .tuple #[.agg #[.int .i64 f.K, .int .i64 f.R, .int .i64 f.S, .int .i64 f.P.K, .int .i64 f.P.V, .slice av f.E.length cv], .bool b]) (by simp [results, Tryd.results22, go_sem, h4, h5, q]) hd ⟨av, cv, rfl, ho, ?_, hb2⟩
  intro x hx
  have := hn x hx
  omega


set_option maxHeartbeats 1600000 in
theorem rcompared_any (c : Cf) (ca : Option Addr) (cc : Nat) (r s : Int) (x : Sd) (w : World) (hc : c.Ok) (hrow : Row w ca c.P) (h0 : 0 ≤ r) (h1 : r ≤ 1099511627776) (hl : x.O.length ≤ 1048576) :
    Calls Tryd.prog 39 #[.agg #[.int .i64 c.N, .int .i64 c.Pi, .int .i64 c.E, .int .i64 c.G, .int .i64 c.F, .slice ca c.P.length cc], .int .i64 r, .int .i64 s, .agg #[.string ⟨x.D.toArray⟩, .string ⟨x.S.toArray⟩, .string ⟨x.O.toArray⟩, .int .i64 x.F]] w (RightRet (compA c r s x) w) := by
  have hB0 : Below w.heap.size w (((w.alloc (.cells #[.int .i64 c.N, .int .i64 c.Pi, .int .i64 c.E, .int .i64 c.G, .int .i64 c.F, .slice ca c.P.length cc] 24)).alloc (.cells #[.string ⟨x.D.toArray⟩, .string ⟨x.S.toArray⟩, .string ⟨x.O.toArray⟩, .int .i64 x.F] 49)).alloc (.cells #[.int .i64 0, .int .i64 0, .int .i64 0, .int .i64 0, .int .i64 0, .slice none 0 0] 29)) := ((alloc_below w _).alloc (by simp) _).alloc (by simp; omega) _
  have hC : Blk (((w.alloc (.cells #[.int .i64 c.N, .int .i64 c.Pi, .int .i64 c.E, .int .i64 c.G, .int .i64 c.F, .slice ca c.P.length cc] 24)).alloc (.cells #[.string ⟨x.D.toArray⟩, .string ⟨x.S.toArray⟩, .string ⟨x.O.toArray⟩, .int .i64 x.F] 49)).alloc (.cells #[.int .i64 0, .int .i64 0, .int .i64 0, .int .i64 0, .int .i64 0, .slice none 0 0] 29)) w.heap.size 24 (confBox c ca cc) := ((Blk.new w _ _).alloc _).alloc _
  have hS : Blk (((w.alloc (.cells #[.int .i64 c.N, .int .i64 c.Pi, .int .i64 c.E, .int .i64 c.G, .int .i64 c.F, .slice ca c.P.length cc] 24)).alloc (.cells #[.string ⟨x.D.toArray⟩, .string ⟨x.S.toArray⟩, .string ⟨x.O.toArray⟩, .int .i64 x.F] 49)).alloc (.cells #[.int .i64 0, .int .i64 0, .int .i64 0, .int .i64 0, .int .i64 0, .slice none 0 0] 29)) (w.heap.size + 1) 49 (#[.string ⟨x.D.toArray⟩, .string ⟨x.S.toArray⟩, .string ⟨x.O.toArray⟩, .int .i64 x.F]) := (Blk.newAt _ _ (by simp)).alloc _
  have hZ : Blk (((w.alloc (.cells #[.int .i64 c.N, .int .i64 c.Pi, .int .i64 c.E, .int .i64 c.G, .int .i64 c.F, .slice ca c.P.length cc] 24)).alloc (.cells #[.string ⟨x.D.toArray⟩, .string ⟨x.S.toArray⟩, .string ⟨x.O.toArray⟩, .int .i64 x.F] 49)).alloc (.cells #[.int .i64 0, .int .i64 0, .int .i64 0, .int .i64 0, .int .i64 0, .slice none 0 0] 29)) (w.heap.size + 1 + 1) 29 #[.int .i64 0, .int .i64 0, .int .i64 0, .int .i64 0, .int .i64 0, .slice none 0 0] := Blk.newAt _ _ (by simp)
  have HRA := Lib.hid (fun W (h : Row W ca c.P) => rRight_any c ca cc r s x.O W hc h h0 h1 hl)
  by_cases g2 : 2 ≤ x.F
  · have d2 : decide (2 ≤ x.F) = true := by simpa using g2
    have hcb : compB c s x.F = true := by unfold compB; rw [d2]; rfl
    clear g2
    have HA := Lib.hid (compA_is (r := r) hcb)
    clear hcb
    go_enter Tryd.func39, Tryd.ntmps39
    go_upto_region 1 with fail
    generalize (((w.alloc (.cells #[.int .i64 c.N, .int .i64 c.Pi, .int .i64 c.E, .int .i64 c.G, .int .i64 c.F, .slice ca c.P.length cc] 24)).alloc (.cells #[.string ⟨x.D.toArray⟩, .string ⟨x.S.toArray⟩, .string ⟨x.O.toArray⟩, .int .i64 x.F] 49)).alloc (.cells #[.int .i64 0, .int .i64 0, .int .i64 0, .int .i64 0, .int .i64 0, .slice none 0 0] 29)) = w1 at *
    have hq := hC.at
    unfold confBox at hq
    have hqs := hS.at
    go_wp2_with fail
    refine (HRA.out _ (hrow.later hB0)).mono ?_
    rintro e w5 ⟨fa, fc, rfl, hrf, hnf, hb⟩
    have hzl := hZ.lt
    replace hnf : ∀ x, fa = some x → w.heap.size + 1 + 1 < x.block := fun x hx => by have := hnf x hx; omega
    replace hB0 := hB0.trans (hb.mono hB0.size)
    replace hZ := hZ.later hb
    clear hb hq hqs
    have hfz := hZ.frozen
    have hqz := hZ.at
    go_wp2
    exact rcomp_end (rightA c r s x.O).1 (rightA c r s x.O).2 w w5 fa fc _ rfl hB0 hZ hrf hnf HA.out
  · have d2 : decide (2 ≤ x.F) = false := by simpa using g2
    by_cases g1 : x.F = 1
    · have d1 : (x.F == 1) = true := by simpa using g1
      cases d3 : decide (c.N ≤ s)
      · have hcb : compB c s x.F = false := by unfold compB; rw [d2, d1, d3]; rfl
        clear g1 g2
        have HA := Lib.hid (compA_not (r := r) hcb)
        clear hcb
        go_enter Tryd.func39, Tryd.ntmps39
        go_upto_region 1 with fail
        generalize (((w.alloc (.cells #[.int .i64 c.N, .int .i64 c.Pi, .int .i64 c.E, .int .i64 c.G, .int .i64 c.F, .slice ca c.P.length cc] 24)).alloc (.cells #[.string ⟨x.D.toArray⟩, .string ⟨x.S.toArray⟩, .string ⟨x.O.toArray⟩, .int .i64 x.F] 49)).alloc (.cells #[.int .i64 0, .int .i64 0, .int .i64 0, .int .i64 0, .int .i64 0, .slice none 0 0] 29)) = w1 at *
        have hq := hC.at
        unfold confBox at hq
        have hqs := hS.at
        have hfz := hZ.frozen
        have hqz := hZ.at
        go_wp2
        exact rcomp_end zeroF false w w1 none 0 _ rfl hB0 hZ (RowT.empty _ _) (fun x hx => by cases hx) HA.out
      · have hcb : compB c s x.F = true := by unfold compB; rw [d2, d1, d3]; rfl
        clear g1 g2
        have HA := Lib.hid (compA_is (r := r) hcb)
        clear hcb
        go_enter Tryd.func39, Tryd.ntmps39
        go_upto_region 1 with fail
        generalize (((w.alloc (.cells #[.int .i64 c.N, .int .i64 c.Pi, .int .i64 c.E, .int .i64 c.G, .int .i64 c.F, .slice ca c.P.length cc] 24)).alloc (.cells #[.string ⟨x.D.toArray⟩, .string ⟨x.S.toArray⟩, .string ⟨x.O.toArray⟩, .int .i64 x.F] 49)).alloc (.cells #[.int .i64 0, .int .i64 0, .int .i64 0, .int .i64 0, .int .i64 0, .slice none 0 0] 29)) = w1 at *
        have hq := hC.at
        unfold confBox at hq
        have hqs := hS.at
        go_wp2_with fail
        refine (HRA.out _ (hrow.later hB0)).mono ?_
        rintro e w5 ⟨fa, fc, rfl, hrf, hnf, hb⟩
        have hzl := hZ.lt
        replace hnf : ∀ x, fa = some x → w.heap.size + 1 + 1 < x.block := fun x hx => by have := hnf x hx; omega
        replace hB0 := hB0.trans (hb.mono hB0.size)
        replace hZ := hZ.later hb
        clear hb hq hqs
        have hfz := hZ.frozen
        have hqz := hZ.at
        go_wp2
        exact rcomp_end (rightA c r s x.O).1 (rightA c r s x.O).2 w w5 fa fc _ rfl hB0 hZ hrf hnf HA.out
    · have d1 : (x.F == 1) = false := by simpa using g1
      have hcb : compB c s x.F = false := by unfold compB; rw [d2, d1]; rfl
      clear g1 g2
      have HA := Lib.hid (compA_not (r := r) hcb)
      clear hcb
      go_enter Tryd.func39, Tryd.ntmps39
      go_upto_region 1 with fail
      generalize (((w.alloc (.cells #[.int .i64 c.N, .int .i64 c.Pi, .int .i64 c.E, .int .i64 c.G, .int .i64 c.F, .slice ca c.P.length cc] 24)).alloc (.cells #[.string ⟨x.D.toArray⟩, .string ⟨x.S.toArray⟩, .string ⟨x.O.toArray⟩, .int .i64 x.F] 49)).alloc (.cells #[.int .i64 0, .int .i64 0, .int .i64 0, .int .i64 0, .int .i64 0, .slice none 0 0] 29)) = w1 at *
      have hq := hC.at
      unfold confBox at hq
      have hqs := hS.at
      have hfz := hZ.frozen
      have hqz := hZ.at
      go_wp2
      exact rcomp_end zeroF false w w1 none 0 _ rfl hB0 hZ (RowT.empty _ _) (fun x hx => by cases hx) HA.out

end Go.Proofs.YtkflijbhlibadabDoor
/-
  Contracts of the reference's chapter 10, second part: what is taken of two sides.
-/
namespace Go.Proofs.YtkflijbhlibadabDoor
open Go.RowKit Plait
set_option maxRecDepth 100000
set_option linter.unusedVariables false
set_option linter.unusedSimpArgs false

/-- What stands while two sides are looked at. -/
structure PkM (c : Cf) (ca : Option Addr) (cc : Nat) (t : TypeId) (a b : Sd) (w W : World) : Prop where
  hB : Below w.heap.size w W
  hC : Blk W w.heap.size 24 (confBox c ca cc)
  hA : Blk W (w.heap.size + 1) t (#[.string ⟨a.D.toArray⟩, .string ⟨a.S.toArray⟩, .string ⟨a.O.toArray⟩, .int .i64 a.F])
  hD : Blk W (w.heap.size + 1 + 1) t (#[.string ⟨b.D.toArray⟩, .string ⟨b.S.toArray⟩, .string ⟨b.O.toArray⟩, .int .i64 b.F])
  hZ : Blk W (w.heap.size + 1 + 1 + 1) 29 #[.int .i64 0, .int .i64 0, .int .i64 0, .int .i64 0, .int .i64 0, .slice none 0 0]
theorem PkM.later {c : Cf} {ca : Option Addr} {cc : Nat} {t : TypeId} {a b : Sd} {w W W' : World} (h : PkM c ca cc t a b w W) (hb : Below W.heap.size W W') : PkM c ca cc t a b w W' :=
  ⟨h.hB.trans (hb.mono h.hB.size), h.hC.later hb, h.hA.later hb, h.hD.later hb, h.hZ.later hb⟩
theorem blk_far6 {W : World} {g g2 : Nat} {t : TypeId} {cs : Array Value} (h : Blk W g t cs) (hne : g ≠ g2) (u0 u1 u2 u3 u4 u5 : Value) :
    Blk ((((((W.setCell ⟨g2, 0, none⟩ u0).setCell ⟨g2, 1, none⟩ u1).setCell ⟨g2, 2, none⟩ u2).setCell ⟨g2, 3, none⟩ u3).setCell ⟨g2, 4, none⟩ u4).setCell ⟨g2, 5, none⟩ u5) g t cs :=
  (((((h.far (p := ⟨g2, 0, none⟩) hne u0).far (p := ⟨g2, 1, none⟩) hne u1).far (p := ⟨g2, 2, none⟩) hne u2).far (p := ⟨g2, 3, none⟩) hne u3).far (p := ⟨g2, 4, none⟩) hne u4).far (p := ⟨g2, 5, none⟩) hne u5
theorem PkM.set6 {c : Cf} {ca : Option Addr} {cc : Nat} {t : TypeId} {a b : Sd} {w W : World} (h : PkM c ca cc t a b w W) {g2 : Nat} (hg : w.heap.size + 1 + 1 + 1 < g2) (u0 u1 u2 u3 u4 u5 : Value) :
    PkM c ca cc t a b w ((((((W.setCell ⟨g2, 0, none⟩ u0).setCell ⟨g2, 1, none⟩ u1).setCell ⟨g2, 2, none⟩ u2).setCell ⟨g2, 3, none⟩ u3).setCell ⟨g2, 4, none⟩ u4).setCell ⟨g2, 5, none⟩ u5) :=
  ⟨below_set6 h.hB (by omega) u0 u1 u2 u3 u4 u5, blk_far6 h.hC (by omega) u0 u1 u2 u3 u4 u5, blk_far6 h.hA (by omega) u0 u1 u2 u3 u4 u5, blk_far6 h.hD (by omega) u0 u1 u2 u3 u4 u5, blk_far6 h.hZ (by omega) u0 u1 u2 u3 u4 u5⟩

/-- The loop over the two sides. -/
def LnM (c : Cf) (ca : Option Addr) (cc : Nat) (a b : Sd) (fb lb : Nat) (w W : World) : Prop :=
  PkM c ca cc 49 a b w W ∧ Blk W lb 49 #[.string ⟨a.D.toArray⟩, .string ⟨a.S.toArray⟩, .string ⟨a.O.toArray⟩, .int .i64 a.F, .string ⟨b.D.toArray⟩, .string ⟨b.S.toArray⟩, .string ⟨b.O.toArray⟩, .int .i64 b.F] ∧ (∃ cs : Array Value, cs.size = 6 ∧ Blk W fb 29 cs)
def LnAt (c : Cf) (ca : Option Addr) (cc : Nat) (r s : Int) (a b : Sd) (fb lb : Nat) (w : World) (i : Value) (W : World) : Prop :=
  (i = .int .i64 0 ∧ LnM c ca cc a b fb lb w W) ∨ (i = .int .i64 1 ∧ (loneA c r s a).2 = false ∧ LnM c ca cc a b fb lb w W) ∨ (i = .int .i64 2 ∧ (loneA c r s a).2 = false ∧ (loneA c r s b).2 = false ∧ LnM c ca cc a b fb lb w W)

theorem pk_cells {c : Cf} {ca : Option Addr} {cc : Nat} {W : World} {g lb off : Nat} {t : TypeId} {cs : Array Value} {v : Value} (h : Blk W g 24 (confBox c ca cc)) (hl : Blk W lb t cs) (hv : cs[off]? = some v) :
    W.cell? ⟨g, 0, none⟩ = some (.int .i64 c.N) ∧ W.cell? ⟨g, 1, none⟩ = some (.int .i64 c.Pi) ∧ W.cell? ⟨g, 2, none⟩ = some (.int .i64 c.E) ∧ W.cell? ⟨g, 3, none⟩ = some (.int .i64 c.G) ∧ W.cell? ⟨g, 4, none⟩ = some (.int .i64 c.F) ∧ W.cell? ⟨g, 5, none⟩ = some (.slice ca c.P.length cc) ∧ W.cell? ⟨lb, off, none⟩ = some v :=
  ⟨by rw [h.at]; rfl, by rw [h.at]; rfl, by rw [h.at]; rfl, by rw [h.at]; rfl, by rw [h.at]; rfl, by rw [h.at]; rfl, by rw [hl.at]; exact hv⟩


theorem drew_size (w : World) : w.drew.heap.size = w.heap.size := rfl

attribute [local irreducible] World.alloc World.drew World.setCell

set_option maxHeartbeats 1600000 in
theorem rPick_any (c : Cf) (ca : Option Addr) (cc : Nat) (r s : Int) (a b : Sd) (w : World) (hc : c.Ok) (hrow : Row w ca c.P) (h0 : 0 ≤ r) (h1r : r ≤ 1099511627776) (la : a.O.length ≤ 1048576) (lb2 : b.O.length ≤ 1048576) (la1 : a.D.length ≤ 1048576) (lb1 : b.D.length ≤ 1048576) :
    Calls Tryd.prog 22 #[.agg #[.int .i64 c.N, .int .i64 c.Pi, .int .i64 c.E, .int .i64 c.G, .int .i64 c.F, .slice ca c.P.length cc], .int .i64 r, .int .i64 s, .agg #[.string ⟨a.D.toArray⟩, .string ⟨a.S.toArray⟩, .string ⟨a.O.toArray⟩, .int .i64 a.F], .agg #[.string ⟨b.D.toArray⟩, .string ⟨b.S.toArray⟩, .string ⟨b.O.toArray⟩, .int .i64 b.F]] w (RightRet (takeA c r s a b) w) := by
  have hM : PkM c ca cc 49 a b w ((((w.alloc (.cells #[.int .i64 c.N, .int .i64 c.Pi, .int .i64 c.E, .int .i64 c.G, .int .i64 c.F, .slice ca c.P.length cc] 24)).alloc (.cells #[.string ⟨a.D.toArray⟩, .string ⟨a.S.toArray⟩, .string ⟨a.O.toArray⟩, .int .i64 a.F] 49)).alloc (.cells #[.string ⟨b.D.toArray⟩, .string ⟨b.S.toArray⟩, .string ⟨b.O.toArray⟩, .int .i64 b.F] 49)).alloc (.cells #[.int .i64 0, .int .i64 0, .int .i64 0, .int .i64 0, .int .i64 0, .slice none 0 0] 29)) :=
    ⟨(((alloc_below w _).alloc (by simp) _).alloc (by simp; omega) _).alloc (by simp; omega) _, (((Blk.new w _ _).alloc _).alloc _).alloc _, ((Blk.newAt _ _ (by simp)).alloc _).alloc _, (Blk.newAt _ _ (by simp)).alloc _, Blk.newAt _ _ (by simp)⟩
  have HCA := Lib.hid (fun W (h : Row W ca c.P) => rcompared_any c ca cc r s a W hc h h0 h1r la)
  have HCB := Lib.hid (fun W (h : Row W ca c.P) => rcompared_any c ca cc r s b W hc h h0 h1r lb2)
  obtain ⟨f, p, hp⟩ : ∃ f p, compA c r s a = (f, p) := ⟨_, _, rfl⟩
  obtain ⟨g, q, hq⟩ : ∃ g q, compA c r s b = (g, q) := ⟨_, _, rfl⟩
  have HA0 := Lib.hid (show takeA c r s a b = if p = true then (if q = true then (if a.O = b.O then (f, true) else (zeroF, false)) else (f, true)) else if q = true then (g, true) else if c.N ≤ s then (zeroF, false) else if (loneA c r s a).2 = true then ((loneA c r s a).1, true) else if (loneA c r s b).2 = true then ((loneA c r s b).1, true) else (zeroF, false) by unfold takeA; rw [hp, hq])
  rw [hp] at HCA
  rw [hq] at HCB
  clear hp hq
  generalize takeA c r s a b = A at *
  go_enter Tryd.func22, Tryd.ntmps22
  go_upto_region 1 with fail
  generalize ((((w.alloc (.cells #[.int .i64 c.N, .int .i64 c.Pi, .int .i64 c.E, .int .i64 c.G, .int .i64 c.F, .slice ca c.P.length cc] 24)).alloc (.cells #[.string ⟨a.D.toArray⟩, .string ⟨a.S.toArray⟩, .string ⟨a.O.toArray⟩, .int .i64 a.F] 49)).alloc (.cells #[.string ⟨b.D.toArray⟩, .string ⟨b.S.toArray⟩, .string ⟨b.O.toArray⟩, .int .i64 b.F] 49)).alloc (.cells #[.int .i64 0, .int .i64 0, .int .i64 0, .int .i64 0, .int .i64 0, .slice none 0 0] 29)) = w1 at *
  have hq := hM.hC.at
  unfold confBox at hq
  have hqa := hM.hA.at
  go_wp2_with fail
  refine (HCA.out _ (hrow.later hM.hB)).mono ?_
  rintro e w2 ⟨fa, fc, rfl, hrf, hnf, hb⟩
  have hzl := hM.hZ.lt
  replace hnf : ∀ x, fa = some x → w.heap.size + 1 + 1 + 1 < x.block := fun x hx => by have := hnf x hx; omega
  replace hM := hM.later hb
  clear hb hq hqa HCA
  go_upto_region 2 with fail
  have hzl2 := hM.hZ.lt
  have hb := alloc_below w2 (.cells #[.int .i64 f.K, .int .i64 f.R, .int .i64 f.S, .int .i64 f.P.K, .int .i64 f.P.V, .slice fa f.E.length fc] 29)
  have hX : Blk (w2.alloc (.cells #[.int .i64 f.K, .int .i64 f.R, .int .i64 f.S, .int .i64 f.P.K, .int .i64 f.P.V, .slice fa f.E.length fc] 29)) w2.heap.size 29 (frBox f fa fc) := Blk.new w2 _ _
  replace hM := hM.later hb
  replace hrf := hrf.later hb
  clear hb hzl
  generalize w2.alloc (.cells #[.int .i64 f.K, .int .i64 f.R, .int .i64 f.S, .int .i64 f.P.K, .int .i64 f.P.V, .slice fa f.E.length fc] 29) = w3 at *
  generalize w2.heap.size = fb at *
  have hq := hM.hC.at
  unfold confBox at hq
  have hqa := hM.hD.at
  go_wp2_with fail
  refine (HCB.out _ (hrow.later hM.hB)).mono ?_
  rintro e w4 ⟨ga, gc, rfl, hrg, hng, hb⟩
  have hzl := hM.hZ.lt
  replace hng : ∀ x, ga = some x → w.heap.size + 1 + 1 + 1 < x.block := fun x hx => by have := hng x hx; omega
  replace hM := hM.later hb
  replace hX := hX.later hb
  replace hrf := hrf.later hb
  clear hb hq hqa HCB
  go_upto_region 3 with fail
  have hb := alloc_below w4 (.cells #[.int .i64 g.K, .int .i64 g.R, .int .i64 g.S, .int .i64 g.P.K, .int .i64 g.P.V, .slice ga g.E.length gc] 29)
  have hY : Blk (w4.alloc (.cells #[.int .i64 g.K, .int .i64 g.R, .int .i64 g.S, .int .i64 g.P.K, .int .i64 g.P.V, .slice ga g.E.length gc] 29)) w4.heap.size 29 (frBox g ga gc) := Blk.new w4 _ _
  replace hM := hM.later hb
  replace hX := hX.later hb
  replace hrf := hrf.later hb
  replace hrg := hrg.later hb
  clear hb hzl
  generalize w4.alloc (.cells #[.int .i64 g.K, .int .i64 g.R, .int .i64 g.S, .int .i64 g.P.K, .int .i64 g.P.V, .slice ga g.E.length gc] 29) = w5 at *
  generalize w4.heap.size = gb at *
  have hqa := hM.hA.at
  have hqd := hM.hD.at
  cases p
  · cases q
    · -- none compared
      replace HA0 := Lib.hid (show A = _ from HA0.out.trans (by rw [if_neg (by decide), if_neg (by decide)]))
      cases dN : decide (c.N ≤ s)
      · have HA1 := Lib.hid (show A = _ from HA0.out.trans (by rw [if_neg (of_decide_eq_false dN)]))
        clear HA0
        have hq := hM.hC.at
        unfold confBox at hq
        go_upto_region 12 with fail
        have hb := alloc_below w5 (.cells #[.string ⟨a.D.toArray⟩, .string ⟨a.S.toArray⟩, .string ⟨a.O.toArray⟩, .int .i64 a.F, .string ⟨b.D.toArray⟩, .string ⟨b.S.toArray⟩, .string ⟨b.O.toArray⟩, .int .i64 b.F] 49)
        have hL := Blk.new w5 49 #[.string ⟨a.D.toArray⟩, .string ⟨a.S.toArray⟩, .string ⟨a.O.toArray⟩, .int .i64 a.F, .string ⟨b.D.toArray⟩, .string ⟨b.S.toArray⟩, .string ⟨b.O.toArray⟩, .int .i64 b.F]
        have hlf : fb < w5.heap.size := hX.lt
        replace hM := hM.later hb
        replace hX := hX.later hb
        clear hb hq hqa hqd hrf hrg hnf hng hY
        generalize w5.alloc (.cells #[.string ⟨a.D.toArray⟩, .string ⟨a.S.toArray⟩, .string ⟨a.O.toArray⟩, .int .i64 a.F, .string ⟨b.D.toArray⟩, .string ⟨b.S.toArray⟩, .string ⟨b.O.toArray⟩, .int .i64 b.F] 49) = w6 at *
        generalize w5.heap.size = lb at *
        have hnl : fb ≠ lb := by omega
        have HST := Lib.hid (show LnAt c ca cc r s a b fb lb w (.int .i64 0) w6 from .inl ⟨rfl, hM, hL, _, rfl, hX⟩)
        clear hM hL hX
        go_wp2
        go_loopw [17] (fun i W => LnAt c ca cc r s a b fb lb w i W) (fun i _ => 2 - (intOf i).toNat)
        case atStart => exact HST.out
        case round =>
          rcases hrel with ⟨rfl, hM, hL, cs, hcs, hF⟩ | ⟨rfl, z1, hM, hL, cs, hcs, hF⟩ | ⟨rfl, z1, z2, hM, hL, cs, hcs, hF⟩
          · skip
            by_cases h1 : a.F = 1
            · have d5 : (a.F != 1) = false := by simpa using h1
              have hlo := loneA_is (c := c) (r := r) (s := s) h1
              clear h1
              have hq := hM.hC.at
              unfold confBox at hq
              have hql := hL.at
              go_upto_region 16 with fail
              clear hq hql
              have HRB := Lib.hid (fun W (h : Row W ca c.P) => rRight_any c ca cc r s a.D W hc h h0 h1r la1)
              obtain ⟨t1, q1, htq⟩ : ∃ t1 q1, rightA c r s a.D = (t1, q1) := ⟨_, _, rfl⟩
              rw [htq] at hlo HRB
              have HLO := Lib.hid hlo
              clear hlo htq
              have hfbl := hF.lt
              obtain ⟨v0, v1, v2, v3, v4, v5, rfl⟩ := arr6 hcs
              have hq := hM.hC.at
              unfold confBox at hq
              have hql := hL.at
              have HRW := Lib.hid (hrow.later hM.hB).drew1
              have hc0 := pk_cells hM.hC.drew1 hL.drew1 (off := 0) (v := .string ⟨a.D.toArray⟩) rfl
              go_region_held3 (fun W => W.cell? ⟨w.heap.size, 0, none⟩ = some (.int .i64 c.N) ∧ W.cell? ⟨w.heap.size, 1, none⟩ = some (.int .i64 c.Pi) ∧ W.cell? ⟨w.heap.size, 2, none⟩ = some (.int .i64 c.E) ∧ W.cell? ⟨w.heap.size, 3, none⟩ = some (.int .i64 c.G) ∧ W.cell? ⟨w.heap.size, 4, none⟩ = some (.int .i64 c.F) ∧ W.cell? ⟨w.heap.size, 5, none⟩ = some (.slice ca c.P.length cc) ∧ W.cell? ⟨lb, 0, none⟩ = some (.string ⟨a.D.toArray⟩))
                (first | assumption | (with_reducible exact hc0) | (with_reducible exact hc7) | (with_reducible exact hc8))
                (first
                | (go_at_call 19; refine (HRB.out _ HRW.out).mono ?_; rintro e w7 ⟨a92, c92, rfl, r92, n92, hb⟩; have hc7 := pk_cells (hM.hC.drew1.later hb) (hL.drew1.later hb) (off := 0) (v := .string ⟨a.D.toArray⟩) rfl; have hc8 := pk_cells (blk_far6 (g2 := fb) (hM.hC.drew1.later hb) (by omega) (.int .i64 t1.K) (.int .i64 t1.R) (.int .i64 t1.S) (.int .i64 t1.P.K) (.int .i64 t1.P.V) (.slice a92 t1.E.length c92)) (blk_far6 (g2 := fb) (hL.drew1.later hb) (Ne.symm hnl) (.int .i64 t1.K) (.int .i64 t1.R) (.int .i64 t1.S) (.int .i64 t1.P.K) (.int .i64 t1.P.V) (.slice a92 t1.E.length c92)) (off := 0) (v := .string ⟨a.D.toArray⟩) rfl; have hF7 := hF.drew1.later hb; have hfz := hF7.frozen; have hqf := hF7.at))
              all_goals
                replace hb := from_drew hb
                replace hM := hM.later hb
                replace hL := hL.later hb
                have hn92 : ∀ x, a92 = some x → fb < x.block := fun x hx => by have h5 := n92 x hx; rw [drew_size] at h5; omega
                clear hb n92 HRB HRW hq hql hF hc0 hc7 hc8
                go_upto_region 17 with fail
                have hM2 := hM.set6 hzl2 (.int .i64 t1.K) (.int .i64 t1.R) (.int .i64 t1.S) (.int .i64 t1.P.K) (.int .i64 t1.P.V) (.slice a92 t1.E.length c92)
                have hX2 := blk_set6 hF7 rfl (.int .i64 t1.K) (.int .i64 t1.R) (.int .i64 t1.S) (.int .i64 t1.P.K) (.int .i64 t1.P.V) (.slice a92 t1.E.length c92)
                have hL2 := blk_far6 hL (Ne.symm hnl) (.int .i64 t1.K) (.int .i64 t1.R) (.int .i64 t1.S) (.int .i64 t1.P.K) (.int .i64 t1.P.V) (.slice a92 t1.E.length c92)
                have hr2 := right_far (w := w) (cv := c92) r92 (.inr fun x hx => by have := hn92 x hx; omega) (g := fb) (.int .i64 t1.K) (.int .i64 t1.R) (.int .i64 t1.S) (.int .i64 t1.P.K) (.int .i64 t1.P.V) (.slice a92 t1.E.length c92)
                generalize (((((w7.setCell ⟨fb, 0, none⟩ (.int .i64 t1.K)).setCell ⟨fb, 1, none⟩ (.int .i64 t1.R)).setCell ⟨fb, 2, none⟩ (.int .i64 t1.S)).setCell ⟨fb, 3, none⟩ (.int .i64 t1.P.K)).setCell ⟨fb, 4, none⟩ (.int .i64 t1.P.V)).setCell ⟨fb, 5, none⟩ (.slice a92 t1.E.length c92) = w8 at *
                clear hM hL hF7 hfz hqf r92
                cases q1
                · have HREL := Lib.hid (show LnAt c ca cc r s a b fb lb w (.int .i64 1) w8 from (.inr (.inl ⟨rfl, by rw [HLO.out], hM2, hL2, _, rfl, hX2⟩)))
                  go_wp2
                  go_roundw
                  case rel => exact HREL.out
                  case measure => simp [intOf]
                · have HA := Lib.hid (show A = (t1, true) from (HA1.out.trans (by rw [HLO.out, if_pos rfl])))
                  have hfz := hM2.hZ.frozen
                  have hqz := hM2.hZ.at
                  have hqx := hX2.at
                  go_wp2
                  exact rpick_end t1 true w _ a92 c92 _ rfl hM2.hB hM2.hZ hr2 (fun x hx => by have := hn92 x hx; omega) HA.out
            · have d5 : (a.F != 1) = true := by simpa using h1
              have hlo := loneA_not (c := c) (r := r) (s := s) h1
              have HREL := Lib.hid (show LnAt c ca cc r s a b fb lb w (.int .i64 1) wr from (.inr (.inl ⟨rfl, by rw [hlo], hM, hL, cs, hcs, hF⟩)))
              clear h1 hlo
              have hql := hL.at
              go_wp2
              go_roundw
              case rel => exact HREL.out
              case measure => simp [intOf]
          · have HZ1 := Lib.hid z1
            clear z1
            by_cases h1 : b.F = 1
            · have d5 : (b.F != 1) = false := by simpa using h1
              have hlo := loneA_is (c := c) (r := r) (s := s) h1
              clear h1
              have hq := hM.hC.at
              unfold confBox at hq
              have hql := hL.at
              go_upto_region 16 with fail
              clear hq hql
              have HRB := Lib.hid (fun W (h : Row W ca c.P) => rRight_any c ca cc r s b.D W hc h h0 h1r lb1)
              obtain ⟨t1, q1, htq⟩ : ∃ t1 q1, rightA c r s b.D = (t1, q1) := ⟨_, _, rfl⟩
              rw [htq] at hlo HRB
              have HLO := Lib.hid hlo
              clear hlo htq
              have hfbl := hF.lt
              obtain ⟨v0, v1, v2, v3, v4, v5, rfl⟩ := arr6 hcs
              have hq := hM.hC.at
              unfold confBox at hq
              have hql := hL.at
              have HRW := Lib.hid (hrow.later hM.hB).drew1
              have hc0 := pk_cells hM.hC.drew1 hL.drew1 (off := 4) (v := .string ⟨b.D.toArray⟩) rfl
              go_region_held3 (fun W => W.cell? ⟨w.heap.size, 0, none⟩ = some (.int .i64 c.N) ∧ W.cell? ⟨w.heap.size, 1, none⟩ = some (.int .i64 c.Pi) ∧ W.cell? ⟨w.heap.size, 2, none⟩ = some (.int .i64 c.E) ∧ W.cell? ⟨w.heap.size, 3, none⟩ = some (.int .i64 c.G) ∧ W.cell? ⟨w.heap.size, 4, none⟩ = some (.int .i64 c.F) ∧ W.cell? ⟨w.heap.size, 5, none⟩ = some (.slice ca c.P.length cc) ∧ W.cell? ⟨lb, 4, none⟩ = some (.string ⟨b.D.toArray⟩))
                (first | assumption | (with_reducible exact hc0) | (with_reducible exact hc7) | (with_reducible exact hc8))
                (first
                | (go_at_call 19; refine (HRB.out _ HRW.out).mono ?_; rintro e w7 ⟨a92, c92, rfl, r92, n92, hb⟩; have hc7 := pk_cells (hM.hC.drew1.later hb) (hL.drew1.later hb) (off := 4) (v := .string ⟨b.D.toArray⟩) rfl; have hc8 := pk_cells (blk_far6 (g2 := fb) (hM.hC.drew1.later hb) (by omega) (.int .i64 t1.K) (.int .i64 t1.R) (.int .i64 t1.S) (.int .i64 t1.P.K) (.int .i64 t1.P.V) (.slice a92 t1.E.length c92)) (blk_far6 (g2 := fb) (hL.drew1.later hb) (Ne.symm hnl) (.int .i64 t1.K) (.int .i64 t1.R) (.int .i64 t1.S) (.int .i64 t1.P.K) (.int .i64 t1.P.V) (.slice a92 t1.E.length c92)) (off := 4) (v := .string ⟨b.D.toArray⟩) rfl; have hF7 := hF.drew1.later hb; have hfz := hF7.frozen; have hqf := hF7.at))
              all_goals
                replace hb := from_drew hb
                replace hM := hM.later hb
                replace hL := hL.later hb
                have hn92 : ∀ x, a92 = some x → fb < x.block := fun x hx => by have h5 := n92 x hx; rw [drew_size] at h5; omega
                clear hb n92 HRB HRW hq hql hF hc0 hc7 hc8
                go_upto_region 17 with fail
                have hM2 := hM.set6 hzl2 (.int .i64 t1.K) (.int .i64 t1.R) (.int .i64 t1.S) (.int .i64 t1.P.K) (.int .i64 t1.P.V) (.slice a92 t1.E.length c92)
                have hX2 := blk_set6 hF7 rfl (.int .i64 t1.K) (.int .i64 t1.R) (.int .i64 t1.S) (.int .i64 t1.P.K) (.int .i64 t1.P.V) (.slice a92 t1.E.length c92)
                have hL2 := blk_far6 hL (Ne.symm hnl) (.int .i64 t1.K) (.int .i64 t1.R) (.int .i64 t1.S) (.int .i64 t1.P.K) (.int .i64 t1.P.V) (.slice a92 t1.E.length c92)
                have hr2 := right_far (w := w) (cv := c92) r92 (.inr fun x hx => by have := hn92 x hx; omega) (g := fb) (.int .i64 t1.K) (.int .i64 t1.R) (.int .i64 t1.S) (.int .i64 t1.P.K) (.int .i64 t1.P.V) (.slice a92 t1.E.length c92)
                generalize (((((w7.setCell ⟨fb, 0, none⟩ (.int .i64 t1.K)).setCell ⟨fb, 1, none⟩ (.int .i64 t1.R)).setCell ⟨fb, 2, none⟩ (.int .i64 t1.S)).setCell ⟨fb, 3, none⟩ (.int .i64 t1.P.K)).setCell ⟨fb, 4, none⟩ (.int .i64 t1.P.V)).setCell ⟨fb, 5, none⟩ (.slice a92 t1.E.length c92) = w8 at *
                clear hM hL hF7 hfz hqf r92
                cases q1
                · have HREL := Lib.hid (show LnAt c ca cc r s a b fb lb w (.int .i64 2) w8 from (.inr (.inr ⟨rfl, HZ1.out, by rw [HLO.out], hM2, hL2, _, rfl, hX2⟩)))
                  go_wp2
                  go_roundw
                  case rel => exact HREL.out
                  case measure => simp [intOf]
                · have HA := Lib.hid (show A = (t1, true) from (HA1.out.trans (by rw [if_neg (by rw [HZ1.out]; decide), HLO.out, if_pos rfl])))
                  have hfz := hM2.hZ.frozen
                  have hqz := hM2.hZ.at
                  have hqx := hX2.at
                  go_wp2
                  exact rpick_end t1 true w _ a92 c92 _ rfl hM2.hB hM2.hZ hr2 (fun x hx => by have := hn92 x hx; omega) HA.out
            · have d5 : (b.F != 1) = true := by simpa using h1
              have hlo := loneA_not (c := c) (r := r) (s := s) h1
              have HREL := Lib.hid (show LnAt c ca cc r s a b fb lb w (.int .i64 2) wr from (.inr (.inr ⟨rfl, HZ1.out, by rw [hlo], hM, hL, cs, hcs, hF⟩)))
              clear h1 hlo
              have hql := hL.at
              go_wp2
              go_roundw
              case rel => exact HREL.out
              case measure => simp [intOf]
          · have HA := Lib.hid (show A = (zeroF, false) from HA1.out.trans (by rw [if_neg (by rw [z1]; decide), if_neg (by rw [z2]; decide)]))
            clear z1 z2
            have hfz := hM.hZ.frozen
            have hqz := hM.hZ.at
            go_wp2
            exact rpick_end zeroF false w _ none 0 _ rfl hM.hB hM.hZ (RowT.empty _ _) (fun x hx => by cases hx) HA.out
      · have HA := Lib.hid (show A = _ from HA0.out.trans (by rw [if_pos (of_decide_eq_true dN)]))
        clear HA0
        have hq := hM.hC.at
        unfold confBox at hq
        have hfz := hM.hZ.frozen
        have hqz := hM.hZ.at
        go_wp2
        exact rpick_end zeroF false w _ none 0 _ rfl hM.hB hM.hZ (RowT.empty _ _) (fun x hx => by cases hx) HA.out
    · have HA := Lib.hid (show A = (g, true) from HA0.out.trans (by rw [if_neg (by decide), if_pos rfl]))
      clear HA0
      have hfz := hM.hZ.frozen
      have hqz := hM.hZ.at
      have hqx := (hY).at
      unfold frBox at hqx
      go_wp2
      exact rpick_end g true w _ ga gc _ rfl hM.hB hM.hZ (hrg) (hng) HA.out
  · cases q
    · have HA := Lib.hid (show A = (f, true) from HA0.out.trans (by rw [if_pos rfl, if_neg (by decide)]))
      clear HA0
      have hfz := hM.hZ.frozen
      have hqz := hM.hZ.at
      have hqx := (hX).at
      unfold frBox at hqx
      go_wp2
      exact rpick_end f true w _ fa fc _ rfl hM.hB hM.hZ (hrf) (hnf) HA.out
    · by_cases ho : a.O = b.O
      · have d1 : (a.O == b.O) = true := by simpa using ho
        have HA := Lib.hid (show A = (f, true) from HA0.out.trans (by rw [if_pos rfl, if_pos rfl, if_pos ho]))
        clear HA0 ho
        have hfz := hM.hZ.frozen
        have hqz := hM.hZ.at
        have hqx := (hX).at
        unfold frBox at hqx
        go_wp2
        exact rpick_end f true w _ fa fc _ rfl hM.hB hM.hZ (hrf) (hnf) HA.out
      · have d1 : (a.O == b.O) = false := by simpa using ho
        have HA := Lib.hid (show A = (zeroF, false) from HA0.out.trans (by rw [if_pos rfl, if_pos rfl, if_neg ho]))
        clear HA0 ho
        have hfz := hM.hZ.frozen
        have hqz := hM.hZ.at
        go_wp2
        exact rpick_end zeroF false w _ none 0 _ rfl hM.hB hM.hZ (RowT.empty _ _) (fun x hx => by cases hx) HA.out

end Go.Proofs.YtkflijbhlibadabDoor
/-
  Contracts of package arb, second part: the copies that there are to take, and those of them that were compared.
-/
namespace Go.Proofs.YtkflijbhlibadabDoor
open Go.RowKit Plait
set_option maxRecDepth 100000
set_option linter.unusedVariables false
set_option linter.unusedSimpArgs false

/-- A copy, as the interface's value. -/
def ifV (p : Cp) : Value := match p with
  | ⟨true, x⟩ => .iface 92 (.agg #[.string ⟨x.D.toArray⟩, .string ⟨x.S.toArray⟩, .string ⟨x.O.toArray⟩, .int .i64 x.F])
  | ⟨false, x⟩ => .iface 93 (.agg #[.string ⟨x.D.toArray⟩, .string ⟨x.S.toArray⟩, .string ⟨x.O.toArray⟩, .int .i64 x.F])
def sdCells (ps : List Cp) : List Value := ps.flatMap fun p => [.string ⟨p.x.D.toArray⟩, .string ⟨p.x.S.toArray⟩, .string ⟨p.x.O.toArray⟩, .int .i64 p.x.F]
theorem sdCells_len : ∀ ps : List Cp, (sdCells ps).length = ps.length * 4
  | [] => rfl
  | p :: r => by
    have ih := sdCells_len r
    unfold sdCells at ih ⊢
    rw [List.flatMap_cons, List.length_append, ih, List.length_cons]
    simp; omega
theorem sdCells_append (a b : List Cp) : sdCells (a ++ b) = sdCells a ++ sdCells b := by simp [sdCells]

/-- Rows of copies that the call made itself: of interface values, of compared ones as they are. -/
def OwnV (base : Nat) (w : World) (v : Value) (ps : List Cp) : Prop := w.ownsRow base 72 1 v ps.length (ps.map ifV)
def OwnC (base : Nat) (w : World) (v : Value) (ps : List Cp) : Prop := w.ownsRow base 92 4 v ps.length (sdCells ps)
theorem OwnV.nil (base : Nat) (w : World) : OwnV base w (.slice none 0 0) [] := World.ownsRow_nil w base _ 1
theorem OwnC.nil (base : Nat) (w : World) : OwnC base w (.slice none 0 0) [] := World.ownsRow_nil w base _ 4
theorem OwnV.form {base : Nat} {w : World} {v : Value} {ps : List Cp} (h : OwnV base w v ps) : ∃ a cap, v = .slice a ps.length cap := by
  rcases h.2 with ⟨hv, h0⟩ | ⟨g, cap, cur, hv, _⟩
  · exact ⟨none, 0, by rw [hv, h0]⟩
  · exact ⟨_, _, hv⟩
theorem OwnC.form {base : Nat} {w : World} {v : Value} {ps : List Cp} (h : OwnC base w v ps) : ∃ a cap, v = .slice a ps.length cap := by
  rcases h.2 with ⟨hv, h0⟩ | ⟨g, cap, cur, hv, _⟩
  · exact ⟨none, 0, by rw [hv, h0]⟩
  · exact ⟨_, _, hv⟩
theorem OwnV.lt {base : Nat} {w : World} {v : Value} {ps : List Cp} (h : OwnV base w v ps) : ∀ k, v.ownBlock = some k → base ≤ k ∧ k < w.heap.size := World.ownsRow.lt h
theorem OwnC.lt {base : Nat} {w : World} {v : Value} {ps : List Cp} (h : OwnC base w v ps) : ∀ k, v.ownBlock = some k → base ≤ k ∧ k < w.heap.size := World.ownsRow.lt h
theorem OwnV.later {base : Nat} {w w' : World} {v : Value} {ps : List Cp} (h : OwnV base w v ps) (hb : Below w.heap.size w w') : OwnV base w' v ps := by
  refine World.ownsRow.kept (row := none) h ⟨hb.os, hb.tape, hb.output, hb.size, fun k hk _ => hb.block k hk⟩ ?_
  cases hv : v.ownBlock
  · exact .inl rfl
  · exact .inr (by simp)
theorem OwnC.later {base : Nat} {w w' : World} {v : Value} {ps : List Cp} (h : OwnC base w v ps) (hb : Below w.heap.size w w') : OwnC base w' v ps := by
  refine World.ownsRow.kept (row := none) h ⟨hb.os, hb.tape, hb.output, hb.size, fun k hk _ => hb.block k hk⟩ ?_
  cases hv : v.ownBlock
  · exact .inl rfl
  · exact .inr (by simp)

/-- A slice of interface values as it lies in memory. -/
def RowV (w : World) (a : Option Addr) (ps : List Cp) : Prop :=
  ps = [] ∨ ∃ b : Nat, a = some ⟨b, 0, none⟩ ∧ b < w.heap.size ∧ ∀ i (h : i < ps.length), w.cell? ⟨b, i, none⟩ = some (ifV ps[i])
theorem RowV.later {w w1 : World} {a : Option Addr} {ps : List Cp} (h : RowV w a ps) (hb : Below w.heap.size w w1) : RowV w1 a ps := by
  rcases h with h3 | ⟨b, e, hlt, hc⟩
  · exact .inl h3
  · exact .inr ⟨b, e, Nat.lt_of_lt_of_le hlt hb.size, fun i hi => by rw [hb.cell (p := ⟨b, i, none⟩) hlt]; exact hc i hi⟩
theorem OwnV.row {base : Nat} {w : World} {a : Option Addr} {n cap : Nat} {ps : List Cp} (h : OwnV base w (.slice a n cap) ps) : RowV w a ps := by
  rcases Nat.eq_zero_or_pos ps.length with h0 | h0
  · exact .inl (List.eq_nil_of_length_eq_zero h0)
  · obtain ⟨g, cap', hv, _, hlt⟩ := World.ownsRow.form h h0
    have hA : a = some ⟨g, 0, none⟩ := by injection hv
    subst hA
    refine .inr ⟨g, rfl, hlt, fun i hi => ?_⟩
    have hc := World.ownsRow.cells h (g := g) rfl i (ifV ps[i]) (by simp [hi])
    rw [addr_at] at hc
    simpa using hc
theorem RowV.get {w : World} {a : Option Addr} {ps : List Cp} (h : RowV w a ps) (k : Nat) (hk : k < ps.length) : ∃ b : Nat, a = some ⟨b, 0, none⟩ ∧ b < w.heap.size ∧ w.cell? ⟨b, k, none⟩ = some (ifV ps[k]) := by
  rcases h with h3 | ⟨b, e, hlt, hc⟩
  · rw [h3] at hk; simp at hk
  · exact ⟨b, e, hlt, hc k hk⟩

theorem infoRcv : (Tryd.prog.info? 72).map (fun i => (i.zero, i.size, i.bytes)) = some (some .nilIface, 1, 16) := by kernel_rfl
theorem infoCmp : (Tryd.prog.info? 92).map (fun i => (i.zero, i.size, i.bytes)) = some (some (.agg #[.string ⟨#[]⟩, .string ⟨#[]⟩, .string ⟨#[]⟩, .int .i64 0]), 4, 56) := by kernel_rfl

theorem ifV_one (p : Cp) : (ifV p).oneCell' = true := by
  obtain ⟨b, x⟩ := p
  cases b <;> rfl

/-- One copy behind a row that the call made itself. -/
theorem wpList_appV {ops : Array Oper} {rest : List Oper} {o : Oper} {a : Act} {Q : Exit → Act → World → Prop} (w : World) (hgd : o.guard = none) (s x : Operand)
    (ho : o.op = .call { callee := .builtin .append, args := #[s, x], argTypes := #[69, 69] })
    (base : Nat) (v : Value) (ps : List Cp) (hs : a.eval s = v) (hown : OwnV base w v ps) (H c : Nat) (p : Cp) (hx : a.eval x = .slice (some ⟨H, 0, none⟩) 1 c)
    (hH : w.heap[H]? = some (.cells #[ifV p] 72 (0, 0))) (hlen : ps.length ≤ 1000000) (hbase : base ≤ w.heap.size)
    (h : ∀ g cap w', OwnV base w' (.slice (some ⟨g, 0, none⟩) (ps.length + 1) cap) (ps ++ [p]) → w.grownBy w' v.ownBlock → (v.ownBlock = some g ∨ g = w.heap.size) → g < w'.heap.size →
      wpList Tryd.prog ops Q rest (a.put o.dst (.slice (some ⟨g, 0, none⟩) (ps.length + 1) cap)) w') : wpList Tryd.prog ops Q (o :: rest) a w := by
  obtain ⟨i, hi, hz0, hz1, hz2⟩ := info_parts infoRcv
  refine wpList_append_lies w hgd s x _ ho base 72 i .nilIface 1 16 Tryd.underlying69 hi hz0 hz1 hz2 rfl (by omega) v ps.length _ hs hown ⟨H, 0, none⟩ 1 c [ifV p] hx rfl
    (World.news_of_block hH) (by simpa using ifV_one p) (by omega) (by unfold maxLen; omega) (by omega) hbase _ rfl ?_
  intro g cap w' h1 h2 h3 h4
  refine h g cap w' ?_ h2 h3 h4
  unfold OwnV
  rw [List.length_append, List.map_append]
  exact h1
theorem wpList_appC {ops : Array Oper} {rest : List Oper} {o : Oper} {a : Act} {Q : Exit → Act → World → Prop} (w : World) (hgd : o.guard = none) (s x : Operand)
    (ho : o.op = .call { callee := .builtin .append, args := #[s, x], argTypes := #[94, 94] })
    (base : Nat) (v : Value) (ps : List Cp) (hs : a.eval s = v) (hown : OwnC base w v ps) (H c : Nat) (p : Cp) (hx : a.eval x = .slice (some ⟨H, 0, none⟩) 1 c)
    (hH : w.heap[H]? = some (.cells #[.string ⟨p.x.D.toArray⟩, .string ⟨p.x.S.toArray⟩, .string ⟨p.x.O.toArray⟩, .int .i64 p.x.F] 92 (0, 0))) (hlen : ps.length ≤ 1000000) (hbase : base ≤ w.heap.size)
    (h : ∀ g cap w', OwnC base w' (.slice (some ⟨g, 0, none⟩) (ps.length + 1) cap) (ps ++ [p]) → w.grownBy w' v.ownBlock → (v.ownBlock = some g ∨ g = w.heap.size) → g < w'.heap.size →
      wpList Tryd.prog ops Q rest (a.put o.dst (.slice (some ⟨g, 0, none⟩) (ps.length + 1) cap)) w') : wpList Tryd.prog ops Q (o :: rest) a w := by
  obtain ⟨i, hi, hz0, hz1, hz2⟩ := info_parts infoCmp
  refine wpList_append_lies w hgd s x _ ho base 92 i (.agg #[.string ⟨#[]⟩, .string ⟨#[]⟩, .string ⟨#[]⟩, .int .i64 0]) 4 56 Tryd.underlying94 hi hz0 hz1 hz2 rfl (by omega) v ps.length _ hs hown ⟨H, 0, none⟩ 1 c [.string ⟨p.x.D.toArray⟩, .string ⟨p.x.S.toArray⟩, .string ⟨p.x.O.toArray⟩, .int .i64 p.x.F] hx rfl
    (World.news_of_block hH) (by simp [Value.oneCell']) (by omega) (by unfold maxLen; omega) (by omega) hbase _ rfl ?_
  intro g cap w' h1 h2 h3 h4
  refine h g cap w' ?_ h2 h3 h4
  unfold OwnC
  rw [List.length_append, sdCells_append]
  exact h1

theorem aisPair_any (c : Cf) (ca : Option Addr) (cc : Nat) (s : Int) (w : World) : Calls Tryd.prog 53 #[.agg #[.int .i64 c.N, .int .i64 c.Pi, .int .i64 c.E, .int .i64 c.G, .int .i64 c.F, .slice ca c.P.length cc], .int .i64 s] w fun e w' => e = .returned (.bool (decide (c.N ≤ s))) ∧ Below w.heap.size w w' := by
  have hb := alloc_below w (.cells #[.int .i64 c.N, .int .i64 c.Pi, .int .i64 c.E, .int .i64 c.G, .int .i64 c.F, .slice ca c.P.length cc] 24)
  go_enter Tryd.func53, Tryd.ntmps53
  go_wp2
  go_ret
  exact ⟨ret_bool (by simp), hb⟩
theorem atextC_any (x : Sd) (w : World) : Calls Tryd.prog 55 #[.agg #[.string ⟨x.D.toArray⟩, .string ⟨x.S.toArray⟩, .string ⟨x.O.toArray⟩, .int .i64 x.F]] w fun e w' => e = .returned (.string ⟨x.O.toArray⟩) ∧ Below w.heap.size w w' := by
  have hb := alloc_below w (.cells #[.string ⟨x.D.toArray⟩, .string ⟨x.S.toArray⟩, .string ⟨x.O.toArray⟩, .int .i64 x.F] 92)
  go_enter Tryd.func55, Tryd.ntmps55
  go_wp2
  go_ret
  exact ⟨rfl, hb⟩
theorem atextL_any (x : Sd) (w : World) : Calls Tryd.prog 102 #[.agg #[.string ⟨x.D.toArray⟩, .string ⟨x.S.toArray⟩, .string ⟨x.O.toArray⟩, .int .i64 x.F]] w fun e w' => e = .returned (.string ⟨x.D.toArray⟩) ∧ Below w.heap.size w w' := by
  have hb := alloc_below w (.cells #[.string ⟨x.D.toArray⟩, .string ⟨x.S.toArray⟩, .string ⟨x.O.toArray⟩, .int .i64 x.F] 93)
  go_enter Tryd.func102, Tryd.ntmps102
  go_wp2
  go_ret
  exact ⟨rfl, hb⟩

theorem cpOf_c {c : Cf} {s : Int} {x : Sd} (h : compB c s x.F = true) : cpOf c s x = [⟨true, x⟩] := by unfold cpOf; rw [if_pos h]
theorem cpOf_l {c : Cf} {s : Int} {x : Sd} (h : compB c s x.F = false) (h1 : x.F = 1) : cpOf c s x = [⟨false, x⟩] := by unfold cpOf; rw [if_neg (by rw [h]; decide), if_pos h1]
theorem cpOf_n {c : Cf} {s : Int} {x : Sd} (h : compB c s x.F = false) (h1 : x.F ≠ 1) : cpOf c s x = [] := by unfold cpOf; rw [if_neg (by rw [h]; decide), if_neg h1]

/-- The loop over the two sides: those looked at. -/
def CpM (c : Cf) (ca : Option Addr) (cc : Nat) (w : World) (v : Value) (ps : List Cp) (W : World) : Prop := Below w.heap.size w W ∧ Blk W w.heap.size 24 (confBox c ca cc) ∧ w.heap.size + 1 + 1 + 1 ≤ W.heap.size ∧ OwnV (w.heap.size + 1 + 1 + 1) W v ps
def CpAt (c : Cf) (ca : Option Addr) (cc : Nat) (s : Int) (a b : Sd) (w : World) (v i : Value) (W : World) : Prop :=
  (i = .int .i64 0 ∧ CpM c ca cc w v [] W) ∨ (i = .int .i64 1 ∧ CpM c ca cc w v (cpOf c s a) W) ∨ (i = .int .i64 2 ∧ CpM c ca cc w v (cpOf c s a ++ cpOf c s b) W)

@[go_sem] theorem ix0 (a b : Sd) (w : World) : (Instr.index 46 (.agg #[.string ⟨a.D.toArray⟩, .string ⟨a.S.toArray⟩, .string ⟨a.O.toArray⟩, .int .i64 a.F, .string ⟨b.D.toArray⟩, .string ⟨b.S.toArray⟩, .string ⟨b.O.toArray⟩, .int .i64 b.F]) (.int .i64 0)).run Tryd.prog w = .ok (.agg #[.string ⟨a.D.toArray⟩, .string ⟨a.S.toArray⟩, .string ⟨a.O.toArray⟩, .int .i64 a.F]) w := by kernel_rfl

@[go_sem] theorem ix1 (a b : Sd) (w : World) : (Instr.index 46 (.agg #[.string ⟨a.D.toArray⟩, .string ⟨a.S.toArray⟩, .string ⟨a.O.toArray⟩, .int .i64 a.F, .string ⟨b.D.toArray⟩, .string ⟨b.S.toArray⟩, .string ⟨b.O.toArray⟩, .int .i64 b.F]) (.int .i64 1)).run Tryd.prog w = .ok (.agg #[.string ⟨b.D.toArray⟩, .string ⟨b.S.toArray⟩, .string ⟨b.O.toArray⟩, .int .i64 b.F]) w := by kernel_rfl

theorem cpOf_len (c : Cf) (s : Int) (x : Sd) : (cpOf c s x).length ≤ 1000000 := by
  unfold cpOf; split
  · simp
  · split <;> simp

set_option maxHeartbeats 1600000 in
theorem acopies_any (c : Cf) (ca : Option Addr) (cc : Nat) (s : Int) (a b : Sd) (w : World) :
    Calls Tryd.prog 37 #[.agg #[.int .i64 c.N, .int .i64 c.Pi, .int .i64 c.E, .int .i64 c.G, .int .i64 c.F, .slice ca c.P.length cc], .int .i64 s, .agg #[.string ⟨a.D.toArray⟩, .string ⟨a.S.toArray⟩, .string ⟨a.O.toArray⟩, .int .i64 a.F], .agg #[.string ⟨b.D.toArray⟩, .string ⟨b.S.toArray⟩, .string ⟨b.O.toArray⟩, .int .i64 b.F]] w fun e w' => ∃ v, e = .returned v ∧ OwnV (w.heap.size + 1 + 1 + 1) w' v (cpsOf c s a b) ∧ Below w.heap.size w w' := by
  have hM0 : CpM c ca cc w (.slice none 0 0) [] (((w.alloc (.cells #[.int .i64 c.N, .int .i64 c.Pi, .int .i64 c.E, .int .i64 c.G, .int .i64 c.F, .slice ca c.P.length cc] 24)).alloc (.cells #[.string ⟨a.D.toArray⟩, .string ⟨a.S.toArray⟩, .string ⟨a.O.toArray⟩, .int .i64 a.F] 45)).alloc (.cells #[.string ⟨b.D.toArray⟩, .string ⟨b.S.toArray⟩, .string ⟨b.O.toArray⟩, .int .i64 b.F] 45)) :=
    ⟨((alloc_below w _).alloc (by simp) _).alloc (by simp; omega) _, ((Blk.new w _ _).alloc _).alloc _, by simp, OwnV.nil _ _⟩
  have hA0 : Blk (((w.alloc (.cells #[.int .i64 c.N, .int .i64 c.Pi, .int .i64 c.E, .int .i64 c.G, .int .i64 c.F, .slice ca c.P.length cc] 24)).alloc (.cells #[.string ⟨a.D.toArray⟩, .string ⟨a.S.toArray⟩, .string ⟨a.O.toArray⟩, .int .i64 a.F] 45)).alloc (.cells #[.string ⟨b.D.toArray⟩, .string ⟨b.S.toArray⟩, .string ⟨b.O.toArray⟩, .int .i64 b.F] 45)) (w.heap.size + 1) 45 (#[.string ⟨a.D.toArray⟩, .string ⟨a.S.toArray⟩, .string ⟨a.O.toArray⟩, .int .i64 a.F]) := (Blk.newAt _ _ (by simp)).alloc _
  have hD0 : Blk (((w.alloc (.cells #[.int .i64 c.N, .int .i64 c.Pi, .int .i64 c.E, .int .i64 c.G, .int .i64 c.F, .slice ca c.P.length cc] 24)).alloc (.cells #[.string ⟨a.D.toArray⟩, .string ⟨a.S.toArray⟩, .string ⟨a.O.toArray⟩, .int .i64 a.F] 45)).alloc (.cells #[.string ⟨b.D.toArray⟩, .string ⟨b.S.toArray⟩, .string ⟨b.O.toArray⟩, .int .i64 b.F] 45)) (w.heap.size + 1 + 1) 45 (#[.string ⟨b.D.toArray⟩, .string ⟨b.S.toArray⟩, .string ⟨b.O.toArray⟩, .int .i64 b.F]) := Blk.newAt _ _ (by simp)
  have HST := Lib.hid (show CpAt c ca cc s a b w (.slice none 0 0) (.int .i64 0) _ from .inl ⟨rfl, hM0⟩)
  clear hM0
  go_enter Tryd.func37, Tryd.ntmps37
  go_upto_region 1 with fail
  generalize (((w.alloc (.cells #[.int .i64 c.N, .int .i64 c.Pi, .int .i64 c.E, .int .i64 c.G, .int .i64 c.F, .slice ca c.P.length cc] 24)).alloc (.cells #[.string ⟨a.D.toArray⟩, .string ⟨a.S.toArray⟩, .string ⟨a.O.toArray⟩, .int .i64 a.F] 45)).alloc (.cells #[.string ⟨b.D.toArray⟩, .string ⟨b.S.toArray⟩, .string ⟨b.O.toArray⟩, .int .i64 b.F] 45)) = w1 at *
  have hqa := hA0.at
  have hqd := hD0.at
  go_wp2
  go_loopw [9, 15] (fun v i W => CpAt c ca cc s a b w v i W) (fun _ i _ => 2 - (intOf i).toNat)
  case atStart => exact HST.out
  case round =>
    clear hqa hqd hA0 hD0 HST
    rcases hrel with ⟨rfl, hM⟩ | ⟨rfl, hM⟩ | ⟨rfl, hM⟩
    · skip
      obtain ⟨hB, hC, hsz, hoV⟩ := hM
      obtain ⟨av, cv, rfl⟩ := hoV.form
      have hpl : (([] : List Cp)).length ≤ 1000000 := by first | decide | exact cpOf_len c s a
      obtain ⟨PS, hPS⟩ : ∃ PS : List Cp, PS = ([] : List Cp) := ⟨_, rfl⟩
      rw [← hPS] at hpl hoV
      have HPS := Lib.hid (show cpOf c s a = PS ++ cpOf c s a by subst hPS; rfl)
      rw [← hPS]
      clear hPS
      have hb3 := alloc_below wr (.cells #[.string ⟨a.D.toArray⟩, .string ⟨a.S.toArray⟩, .string ⟨a.O.toArray⟩, .int .i64 a.F] 45)
      have hS := Blk.new wr 45 (#[.string ⟨a.D.toArray⟩, .string ⟨a.S.toArray⟩, .string ⟨a.O.toArray⟩, .int .i64 a.F])
      go_upto_region 5 with fail
      replace hB := hB.trans (hb3.mono hB.size)
      replace hC := hC.later hb3
      replace hoV := hoV.later hb3
      have hsz2 := hb3.size
      replace hsz : w.heap.size + 1 + 1 + 1 ≤ (wr.alloc (.cells #[.string ⟨a.D.toArray⟩, .string ⟨a.S.toArray⟩, .string ⟨a.O.toArray⟩, .int .i64 a.F] 45)).heap.size := Nat.le_trans hsz hsz2
      clear hb3 hsz2
      generalize wr.alloc (.cells #[.string ⟨a.D.toArray⟩, .string ⟨a.S.toArray⟩, .string ⟨a.O.toArray⟩, .int .i64 a.F] 45) = w3 at *
      generalize wr.heap.size = sb at *
      have hqs := hS.at
      by_cases g2 : 1 < a.F
      · have d2 : decide (1 < a.F) = true := by simpa using g2
        have hcb : compB c s a.F = true := by unfold compB; rw [show decide (2 ≤ a.F) = true by simp; omega]; rfl
        have HX := Lib.hid (cpOf_c hcb)
        clear g2 hcb
        have HCP := Lib.hid (show cpOf c s a = PS ++ [⟨true, a⟩] from HPS.out.trans (by rw [HX.out]))
        go_wp2_with (at_builtin; refine wpList_appV _ rfl _ _ rfl (w.heap.size + 1 + 1 + 1) (.slice av PS.length cv) PS rfl (hoV.later (alloc_below _ _)) w3.heap.size 1 ⟨true, a⟩ rfl (heap_alloc_new _ _) hpl (by simp; omega) ?_; intro g cap' w5 h1' h2' h3' h4')
        have hown' := hoV.lt
        have hM5 : CpM c ca cc w (.slice (some ⟨g, 0, none⟩) (PS.length + 1) cap') (PS ++ [⟨true, a⟩]) w5 := by
          have h7 := (alloc_below w3 (.cells #[ifV ⟨true, a⟩] 72)).size
          have h6 := h2'.size
          exact ⟨below_grown (hB.trans ((alloc_below _ _).mono hB.size)) (by simp; omega) h2' (fun k e => by have := (hown' k e).1; omega), Blk.grown (hC.alloc _) h2' (fun e => by have := (hown' _ e.symm).1; omega), Nat.le_trans hsz (Nat.le_trans h7 h6), h1'⟩
        have HREL := Lib.hid (show CpAt c ca cc s a b w (.slice (some ⟨g, 0, none⟩) (PS.length + 1) cap') (.int .i64 1) w5 from .inr (.inl ⟨rfl, (by have e := HCP.out; rw [e]; exact hM5)⟩))
        clear hM5 hown' h1' h2' h3' h4' hB hC hoV hS
        (try clear d1)
        (try clear d3)
        go_wp2
        go_roundw
        case rel => exact HREL.out
        case measure => simp [intOf]
      · have d2 : decide (1 < a.F) = false := by simpa using g2
        have hn2 : decide (2 ≤ a.F) = false := by simp; omega
        by_cases g1 : a.F = 1
        · have d1 : (a.F == 1) = true := by simpa using g1
          have HG1 := Lib.hid g1
          clear g1
          have hq := hC.at
          unfold confBox at hq
          go_wp2_with fail
          refine (aisPair_any c ca cc s _).mono ?_
          rintro e w4 ⟨rfl, hb⟩
          replace hB := hB.trans (hb.mono hB.size)
          replace hC := hC.later hb
          replace hoV := hoV.later hb
          replace hS := hS.later hb
          have hsz2 := hb.size
          replace hsz := Nat.le_trans hsz hsz2
          clear hb hsz2 hq hqs
          have hqs := hS.at
          cases d3 : decide (c.N ≤ s)
          · have hcb : compB c s a.F = false := by unfold compB; rw [hn2, d1, d3]; rfl
            have HX := Lib.hid (cpOf_l hcb HG1.out)
            clear g2 hcb hn2
            rename World => w3
            have HCP := Lib.hid (show cpOf c s a = PS ++ [⟨false, a⟩] from HPS.out.trans (by rw [HX.out]))
            go_wp2_with (at_builtin; refine wpList_appV _ rfl _ _ rfl (w.heap.size + 1 + 1 + 1) (.slice av PS.length cv) PS rfl (hoV.later (alloc_below _ _)) w3.heap.size 1 ⟨false, a⟩ rfl (heap_alloc_new _ _) hpl (by simp; omega) ?_; intro g cap' w5 h1' h2' h3' h4')
            have hown' := hoV.lt
            have hM5 : CpM c ca cc w (.slice (some ⟨g, 0, none⟩) (PS.length + 1) cap') (PS ++ [⟨false, a⟩]) w5 := by
              have h7 := (alloc_below w3 (.cells #[ifV ⟨false, a⟩] 72)).size
              have h6 := h2'.size
              exact ⟨below_grown (hB.trans ((alloc_below _ _).mono hB.size)) (by simp; omega) h2' (fun k e => by have := (hown' k e).1; omega), Blk.grown (hC.alloc _) h2' (fun e => by have := (hown' _ e.symm).1; omega), Nat.le_trans hsz (Nat.le_trans h7 h6), h1'⟩
            have HREL := Lib.hid (show CpAt c ca cc s a b w (.slice (some ⟨g, 0, none⟩) (PS.length + 1) cap') (.int .i64 1) w5 from .inr (.inl ⟨rfl, (by have e := HCP.out; rw [e]; exact hM5)⟩))
            clear hM5 hown' h1' h2' h3' h4' hB hC hoV hS
            (try clear d1)
            (try clear d3)
            go_wp2
            go_roundw
            case rel => exact HREL.out
            case measure => simp [intOf]
          · have hcb : compB c s a.F = true := by unfold compB; rw [hn2, d1, d3]; rfl
            have HX := Lib.hid (cpOf_c hcb)
            clear g2 hcb hn2
            rename World => w3
            have HCP := Lib.hid (show cpOf c s a = PS ++ [⟨true, a⟩] from HPS.out.trans (by rw [HX.out]))
            go_wp2_with (at_builtin; refine wpList_appV _ rfl _ _ rfl (w.heap.size + 1 + 1 + 1) (.slice av PS.length cv) PS rfl (hoV.later (alloc_below _ _)) w3.heap.size 1 ⟨true, a⟩ rfl (heap_alloc_new _ _) hpl (by simp; omega) ?_; intro g cap' w5 h1' h2' h3' h4')
            have hown' := hoV.lt
            have hM5 : CpM c ca cc w (.slice (some ⟨g, 0, none⟩) (PS.length + 1) cap') (PS ++ [⟨true, a⟩]) w5 := by
              have h7 := (alloc_below w3 (.cells #[ifV ⟨true, a⟩] 72)).size
              have h6 := h2'.size
              exact ⟨below_grown (hB.trans ((alloc_below _ _).mono hB.size)) (by simp; omega) h2' (fun k e => by have := (hown' k e).1; omega), Blk.grown (hC.alloc _) h2' (fun e => by have := (hown' _ e.symm).1; omega), Nat.le_trans hsz (Nat.le_trans h7 h6), h1'⟩
            have HREL := Lib.hid (show CpAt c ca cc s a b w (.slice (some ⟨g, 0, none⟩) (PS.length + 1) cap') (.int .i64 1) w5 from .inr (.inl ⟨rfl, (by have e := HCP.out; rw [e]; exact hM5)⟩))
            clear hM5 hown' h1' h2' h3' h4' hB hC hoV hS
            (try clear d1)
            (try clear d3)
            go_wp2
            go_roundw
            case rel => exact HREL.out
            case measure => simp [intOf]
        · have d1 : (a.F == 1) = false := by simpa using g1
          have hcb : compB c s a.F = false := by unfold compB; rw [hn2, d1]; rfl
          have HREL := Lib.hid (show CpAt c ca cc s a b w (.slice av PS.length cv) (.int .i64 1) w3 from .inr (.inl ⟨rfl, (by have e : cpOf c s a = PS := HPS.out.trans (by rw [cpOf_n hcb g1, List.append_nil]); rw [e]; exact ⟨hB, hC, hsz, hoV⟩)⟩))
          clear g1 g2 hcb hn2 hB hC hoV
          go_wp2
          go_roundw
          case rel => exact HREL.out
          case measure => simp [intOf]
    · skip
      obtain ⟨hB, hC, hsz, hoV⟩ := hM
      obtain ⟨av, cv, rfl⟩ := hoV.form
      have hpl : (cpOf c s a).length ≤ 1000000 := by first | decide | exact cpOf_len c s a
      obtain ⟨PS, hPS⟩ : ∃ PS : List Cp, PS = cpOf c s a := ⟨_, rfl⟩
      rw [← hPS] at hpl hoV
      have HPS := Lib.hid (show cpOf c s a ++ cpOf c s b = PS ++ cpOf c s b by subst hPS; rfl)
      rw [← hPS]
      clear hPS
      have hb3 := alloc_below wr (.cells #[.string ⟨b.D.toArray⟩, .string ⟨b.S.toArray⟩, .string ⟨b.O.toArray⟩, .int .i64 b.F] 45)
      have hS := Blk.new wr 45 (#[.string ⟨b.D.toArray⟩, .string ⟨b.S.toArray⟩, .string ⟨b.O.toArray⟩, .int .i64 b.F])
      go_upto_region 5 with fail
      replace hB := hB.trans (hb3.mono hB.size)
      replace hC := hC.later hb3
      replace hoV := hoV.later hb3
      have hsz2 := hb3.size
      replace hsz : w.heap.size + 1 + 1 + 1 ≤ (wr.alloc (.cells #[.string ⟨b.D.toArray⟩, .string ⟨b.S.toArray⟩, .string ⟨b.O.toArray⟩, .int .i64 b.F] 45)).heap.size := Nat.le_trans hsz hsz2
      clear hb3 hsz2
      generalize wr.alloc (.cells #[.string ⟨b.D.toArray⟩, .string ⟨b.S.toArray⟩, .string ⟨b.O.toArray⟩, .int .i64 b.F] 45) = w3 at *
      generalize wr.heap.size = sb at *
      have hqs := hS.at
      by_cases g2 : 1 < b.F
      · have d2 : decide (1 < b.F) = true := by simpa using g2
        have hcb : compB c s b.F = true := by unfold compB; rw [show decide (2 ≤ b.F) = true by simp; omega]; rfl
        have HX := Lib.hid (cpOf_c hcb)
        clear g2 hcb
        have HCP := Lib.hid (show cpOf c s a ++ cpOf c s b = PS ++ [⟨true, b⟩] from HPS.out.trans (by rw [HX.out]))
        go_wp2_with (at_builtin; refine wpList_appV _ rfl _ _ rfl (w.heap.size + 1 + 1 + 1) (.slice av PS.length cv) PS rfl (hoV.later (alloc_below _ _)) w3.heap.size 1 ⟨true, b⟩ rfl (heap_alloc_new _ _) hpl (by simp; omega) ?_; intro g cap' w5 h1' h2' h3' h4')
        have hown' := hoV.lt
        have hM5 : CpM c ca cc w (.slice (some ⟨g, 0, none⟩) (PS.length + 1) cap') (PS ++ [⟨true, b⟩]) w5 := by
          have h7 := (alloc_below w3 (.cells #[ifV ⟨true, b⟩] 72)).size
          have h6 := h2'.size
          exact ⟨below_grown (hB.trans ((alloc_below _ _).mono hB.size)) (by simp; omega) h2' (fun k e => by have := (hown' k e).1; omega), Blk.grown (hC.alloc _) h2' (fun e => by have := (hown' _ e.symm).1; omega), Nat.le_trans hsz (Nat.le_trans h7 h6), h1'⟩
        have HREL := Lib.hid (show CpAt c ca cc s a b w (.slice (some ⟨g, 0, none⟩) (PS.length + 1) cap') (.int .i64 2) w5 from .inr (.inr ⟨rfl, (by have e := HCP.out; rw [e]; exact hM5)⟩))
        clear hM5 hown' h1' h2' h3' h4' hB hC hoV hS
        (try clear d1)
        (try clear d3)
        go_wp2
        go_roundw
        case rel => exact HREL.out
        case measure => simp [intOf]
      · have d2 : decide (1 < b.F) = false := by simpa using g2
        have hn2 : decide (2 ≤ b.F) = false := by simp; omega
        by_cases g1 : b.F = 1
        · have d1 : (b.F == 1) = true := by simpa using g1
          have HG1 := Lib.hid g1
          clear g1
          have hq := hC.at
          unfold confBox at hq
          go_wp2_with fail
          refine (aisPair_any c ca cc s _).mono ?_
          rintro e w4 ⟨rfl, hb⟩
          replace hB := hB.trans (hb.mono hB.size)
          replace hC := hC.later hb
          replace hoV := hoV.later hb
          replace hS := hS.later hb
          have hsz2 := hb.size
          replace hsz := Nat.le_trans hsz hsz2
          clear hb hsz2 hq hqs
          have hqs := hS.at
          cases d3 : decide (c.N ≤ s)
          · have hcb : compB c s b.F = false := by unfold compB; rw [hn2, d1, d3]; rfl
            have HX := Lib.hid (cpOf_l hcb HG1.out)
            clear g2 hcb hn2
            rename World => w3
            have HCP := Lib.hid (show cpOf c s a ++ cpOf c s b = PS ++ [⟨false, b⟩] from HPS.out.trans (by rw [HX.out]))
            go_wp2_with (at_builtin; refine wpList_appV _ rfl _ _ rfl (w.heap.size + 1 + 1 + 1) (.slice av PS.length cv) PS rfl (hoV.later (alloc_below _ _)) w3.heap.size 1 ⟨false, b⟩ rfl (heap_alloc_new _ _) hpl (by simp; omega) ?_; intro g cap' w5 h1' h2' h3' h4')
            have hown' := hoV.lt
            have hM5 : CpM c ca cc w (.slice (some ⟨g, 0, none⟩) (PS.length + 1) cap') (PS ++ [⟨false, b⟩]) w5 := by
              have h7 := (alloc_below w3 (.cells #[ifV ⟨false, b⟩] 72)).size
              have h6 := h2'.size
              exact ⟨below_grown (hB.trans ((alloc_below _ _).mono hB.size)) (by simp; omega) h2' (fun k e => by have := (hown' k e).1; omega), Blk.grown (hC.alloc _) h2' (fun e => by have := (hown' _ e.symm).1; omega), Nat.le_trans hsz (Nat.le_trans h7 h6), h1'⟩
            have HREL := Lib.hid (show CpAt c ca cc s a b w (.slice (some ⟨g, 0, none⟩) (PS.length + 1) cap') (.int .i64 2) w5 from .inr (.inr ⟨rfl, (by have e := HCP.out; rw [e]; exact hM5)⟩))
            clear hM5 hown' h1' h2' h3' h4' hB hC hoV hS
            (try clear d1)
            (try clear d3)
            go_wp2
            go_roundw
            case rel => exact HREL.out
            case measure => simp [intOf]
          · have hcb : compB c s b.F = true := by unfold compB; rw [hn2, d1, d3]; rfl
            have HX := Lib.hid (cpOf_c hcb)
            clear g2 hcb hn2
            rename World => w3
            have HCP := Lib.hid (show cpOf c s a ++ cpOf c s b = PS ++ [⟨true, b⟩] from HPS.out.trans (by rw [HX.out]))
            go_wp2_with (at_builtin; refine wpList_appV _ rfl _ _ rfl (w.heap.size + 1 + 1 + 1) (.slice av PS.length cv) PS rfl (hoV.later (alloc_below _ _)) w3.heap.size 1 ⟨true, b⟩ rfl (heap_alloc_new _ _) hpl (by simp; omega) ?_; intro g cap' w5 h1' h2' h3' h4')
            have hown' := hoV.lt
            have hM5 : CpM c ca cc w (.slice (some ⟨g, 0, none⟩) (PS.length + 1) cap') (PS ++ [⟨true, b⟩]) w5 := by
              have h7 := (alloc_below w3 (.cells #[ifV ⟨true, b⟩] 72)).size
              have h6 := h2'.size
              exact ⟨below_grown (hB.trans ((alloc_below _ _).mono hB.size)) (by simp; omega) h2' (fun k e => by have := (hown' k e).1; omega), Blk.grown (hC.alloc _) h2' (fun e => by have := (hown' _ e.symm).1; omega), Nat.le_trans hsz (Nat.le_trans h7 h6), h1'⟩
            have HREL := Lib.hid (show CpAt c ca cc s a b w (.slice (some ⟨g, 0, none⟩) (PS.length + 1) cap') (.int .i64 2) w5 from .inr (.inr ⟨rfl, (by have e := HCP.out; rw [e]; exact hM5)⟩))
            clear hM5 hown' h1' h2' h3' h4' hB hC hoV hS
            (try clear d1)
            (try clear d3)
            go_wp2
            go_roundw
            case rel => exact HREL.out
            case measure => simp [intOf]
        · have d1 : (b.F == 1) = false := by simpa using g1
          have hcb : compB c s b.F = false := by unfold compB; rw [hn2, d1]; rfl
          have HREL := Lib.hid (show CpAt c ca cc s a b w (.slice av PS.length cv) (.int .i64 2) w3 from .inr (.inr ⟨rfl, (by have e : cpOf c s a ++ cpOf c s b = PS := HPS.out.trans (by rw [cpOf_n hcb g1, List.append_nil]); rw [e]; exact ⟨hB, hC, hsz, hoV⟩)⟩))
          clear g1 g2 hcb hn2 hB hC hoV
          go_wp2
          go_roundw
          case rel => exact HREL.out
          case measure => simp [intOf]
    · skip
      obtain ⟨hB, hC, hsz, hoV⟩ := hM
      obtain ⟨av, cv, rfl⟩ := hoV.form
      go_wp2
      go_ret
      exact ⟨_, rfl, hoV, hB⟩

@[go_sem] theorem asC (v : Value) (w : World) : (Instr.typeAssert (.iface 92 v) 72 92 true).run Tryd.prog w = .ok (.tuple #[v, .bool true]) w := by kernel_rfl

@[go_sem] theorem asL (v : Value) (w : World) : (Instr.typeAssert (.iface 93 v) 72 92 true).run Tryd.prog w = .ok (.tuple #[.agg #[.string ⟨#[]⟩, .string ⟨#[]⟩, .string ⟨#[]⟩, .int .i64 0], .bool false]) w := by kernel_rfl

/-- The loop over the copies that are Right: those that were compared. -/
def CmAt (ps : List Cp) (w : World) (v i : Value) (W : World) : Prop := ∃ k : Nat, k ≤ ps.length ∧ i = .int .i64 k ∧ Below w.heap.size w W ∧ OwnC w.heap.size W v ((ps.take k).filter (·.b))

set_option maxHeartbeats 1600000 in
theorem acomparedOf_any (ra : Option Addr) (ps : List Cp) (rc : Nat) (w : World) (hr : RowV w ra ps) (hl : ps.length ≤ 1000) :
    Calls Tryd.prog 54 #[.slice ra ps.length rc] w fun e w' => ∃ v, e = .returned v ∧ OwnC w.heap.size w' v (ps.filter (·.b)) ∧ Below w.heap.size w w' := by
  have HST := Lib.hid (show CmAt ps w (.slice none 0 0) (.int .i64 (0 : Nat)) w from ⟨0, Nat.zero_le _, rfl, Below.refl _ _, OwnC.nil _ _⟩)
  go_enter Tryd.func54, Tryd.ntmps54
  go_wp2
  go_loopw [3, 10] (fun v i W => CmAt ps w v i W) (fun _ i _ => ps.length - (intOf i).toNat)
  case atStart => exact HST.out
  case round =>
    obtain ⟨k, hk, rfl, hB, hoC⟩ := hrel
    clear HST
    obtain ⟨av, cv, rfl⟩ := hoC.form
    by_cases hlt : k < ps.length
    · have d1 : decide (k < ps.length) = true := by simpa using hlt
      obtain ⟨rb, rfl, hrb, hrc⟩ := (hr.later hB).get k hlt
      have g0 : (0 : Int) ≤ (k : Int) := by omega
      have g1 : (k : Int) < (ps.length : Int) := by omega
      have HTK := Lib.hid (show ps.take (k + 1) = ps.take k ++ [ps[k]] from by rw [List.take_succ_eq_append_getElem hlt])
      have hpl : ((ps.take k).filter (·.b)).length ≤ 1000000 := by
        have h1 := List.length_filter_le (·.b) (ps.take k)
        have h2 := List.length_take_le k ps
        omega
      obtain ⟨p, hp⟩ : ∃ p, p = ps[k] := ⟨_, rfl⟩
      rw [← hp] at HTK hrc
      clear hp
      obtain ⟨b, x⟩ := p
      cases b
      · have HREL := Lib.hid (show CmAt ps w (.slice av ((ps.take k).filter (·.b)).length cv) (.int .i64 ((k : Int) + 1)) (wr.alloc (.cells #[.string ⟨#[]⟩, .string ⟨#[]⟩, .string ⟨#[]⟩, .int .i64 0] 92)) from ⟨k + 1, hlt, by go_num, hB.alloc hB.size _, by rw [HTK.out, List.filter_append]; simpa using hoC.later (alloc_below _ _)⟩)
        unfold ifV at hrc
        clear hoC hB hpl
        generalize (ps.take k).filter (·.b) = PS at *
        go_wp2
        go_roundw
        case rel => exact HREL.out
        case measure => simp [intOf]; omega
      · have HF := Lib.hid (show (ps.take (k + 1)).filter (·.b) = (ps.take k).filter (·.b) ++ [⟨true, x⟩] by rw [HTK.out, List.filter_append]; rfl)
        unfold ifV at hrc
        generalize (ps.take k).filter (·.b) = PS at *
        have hS := Blk.new wr 92 (#[.string ⟨x.D.toArray⟩, .string ⟨x.S.toArray⟩, .string ⟨x.O.toArray⟩, .int .i64 x.F])
        have hb3 := alloc_below wr (.cells #[.string ⟨x.D.toArray⟩, .string ⟨x.S.toArray⟩, .string ⟨x.O.toArray⟩, .int .i64 x.F] 92)
        go_upto_region 7 with fail
        replace hB := hB.trans (hb3.mono hB.size)
        replace hoC := hoC.later hb3
        have hsz := hB.size
        clear hb3
        generalize wr.alloc (.cells #[.string ⟨x.D.toArray⟩, .string ⟨x.S.toArray⟩, .string ⟨x.O.toArray⟩, .int .i64 x.F] 92) = w3 at *
        generalize wr.heap.size = sb at *
        have hqs := hS.at
        go_wp2_with (at_builtin; refine wpList_appC _ rfl _ _ rfl w.heap.size (.slice av PS.length cv) PS rfl (hoC.later (alloc_below _ _)) w3.heap.size 1 ⟨true, x⟩ rfl (heap_alloc_new _ _) hpl (by simp; omega) ?_; intro g cap' w5 h1' h2' h3' h4')
        have hown' := hoC.lt
        have HREL := Lib.hid (show CmAt ps w (.slice (some ⟨g, 0, none⟩) (PS.length + 1) cap') (.int .i64 ((k : Int) + 1)) w5 from ⟨k + 1, hlt, by go_num, below_grown (hB.trans ((alloc_below _ _).mono hB.size)) (by simp; omega) h2' (fun k e => by have := (hown' k e).1; omega), by rw [HF.out]; exact h1'⟩)
        clear h1' h2' h3' h4' hown' hoC hB hS hqs
        go_wp2
        go_roundw
        case rel => exact HREL.out
        case measure => simp [intOf]; omega
    · have d1 : decide (k < ps.length) = false := by simpa using hlt
      have HE := Lib.hid (show ps.filter (·.b) = (ps.take k).filter (·.b) by rw [List.take_of_length_le (by omega)])
      go_wp2
      go_ret
      exact ⟨_, rfl, by rw [HE.out]; exact hoC, hB⟩

end Go.Proofs.YtkflijbhlibadabDoor

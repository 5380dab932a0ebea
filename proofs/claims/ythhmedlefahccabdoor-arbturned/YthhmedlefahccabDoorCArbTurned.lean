/-
  ArbTurned answers true for every input, and leaves its arguments as they were; the package's table of bounds is tied to the program's text. No condition.
-/
import Derived.Test.YthhmedlefahccabDoorK13
import Derived.Test.YthhmedlefahccabDoorK9
import Derived.Test.YthhmedlefahccabDoorTie
import Derived.Test.YthhmedlefahccabDoorCards
/-
  ArbTurned's walk.
-/
namespace Go.Proofs.YthhmedlefahccabDoor
open Go.RowKit Plait
set_option maxRecDepth 100000
set_option linter.unusedVariables false
set_option linter.unusedSimpArgs false

/-- Compared copies: which side is which does not matter. -/
theorem take_swap (c : Cf) (r s : Int) (a b : Sd) (ha : 2 ≤ a.F) (hb : 2 ≤ b.F) : takeA c r s a b = takeA c r s b a := by
  have h1 : compA c r s a = rightA c r s a.O := compA_is (by unfold compB; simp [ha])
  have h2 : compA c r s b = rightA c r s b.O := compA_is (by unfold compB; simp [hb])
  have h3 : loneA c r s a = (zeroF, false) := loneA_not (by omega)
  have h4 : loneA c r s b = (zeroF, false) := loneA_not (by omega)
  unfold takeA
  rw [h1, h2, h3, h4]
  cases p : (rightA c r s a.O).2 <;> cases q : (rightA c r s b.O).2
  · simp
  · simp
  · simp
  · by_cases e : a.O = b.O
    · simp [e]
    · have e2 : ¬ b.O = a.O := fun h => e h.symm
      simp [e, e2]

/-- A row of four items or more is in no block of six cells. -/
theorem rowT_box {W : World} {a : Option Addr} {ts : List It} {b : Nat} {t : TypeId} {cs : Array Value} (h : RowT W a ts) (hb : Blk W b t cs) (h6 : cs.size = 6) (h4 : ts = [] ∨ 4 ≤ ts.length) : ts = [] ∨ ∀ x, a = some x → x.block ≠ b := by
  rcases h4 with e | h4
  · exact .inl e
  · right
    intro x hx e
    rcases h.2.2 with h3 | ⟨b2, off, rfl, hlt, hc⟩
    · rw [h3] at h4; simp at h4
    · injection hx with hx
      subst hx
      have e2 : b2 = b := e
      subst e2
      have := (hc 3 (by omega)).2
      rw [hb.at] at this
      rw [Array.getElem?_eq_none (by omega)] at this
      cases this
theorem ok_echo {c : Cf} {f : Fr} (hc : c.Ok) (h : f.Ok c) : f.E = [] ∨ 4 ≤ f.E.length := by
  have n6 := hc.n6
  have hl := h.len
  unfold echoI slotsI at hl
  split at hl
  · right; omega
  · left; exact List.eq_nil_of_length_eq_zero (by omega)
theorem blk_again {W : World} {g g2 k : Nat} {t : TypeId} {cs : Array Value} {u : Value} (h : Blk W g t (cs.setIfInBounds k u)) : Blk (W.setCell ⟨g2, k, none⟩ u) g t (cs.setIfInBounds k u) := by
  by_cases e : g = g2
  · subst e
    have := h.set k u
    rw [Array.setIfInBounds_setIfInBounds] at this
    exact this
  · exact h.far (p := ⟨g2, k, none⟩) e u

/-- What stands while two frames are made ready. -/
structure T7 (d : Cf) (da : Option Addr) (dc db xb yb : Nat) (X Y : Fr) (xa : Option Addr) (xc : Nat) (ya : Option Addr) (yc : Nat) (w W : World) : Prop where
  hB : Below w.heap.size w W
  hD : Blk W db 24 (confBox d da dc)
  hrd : Row W da d.P
  hX : Blk W xb 29 (frBox X xa xc)
  hY : Blk W yb 29 (frBox Y ya yc)
  hrx : RowT W xa X.E
  hry : RowT W ya Y.E
  lx : w.heap.size ≤ xb
  ly : w.heap.size ≤ yb
  dx : db ≠ xb ∧ db ≠ yb
  rd : d.P = [] ∨ ∀ x, da = some x → x.block ≠ xb ∧ x.block ≠ yb
  rx : X.E = [] ∨ ∀ x, xa = some x → x.block ≠ xb ∧ x.block ≠ yb
  ry : Y.E = [] ∨ ∀ x, ya = some x → x.block ≠ xb ∧ x.block ≠ yb
theorem T7.later {d : Cf} {da : Option Addr} {dc db xb yb : Nat} {X Y : Fr} {xa : Option Addr} {xc : Nat} {ya : Option Addr} {yc : Nat} {w W W' : World} (h : T7 d da dc db xb yb X Y xa xc ya yc w W) (hb : Below W.heap.size W W') : T7 d da dc db xb yb X Y xa xc ya yc w W' :=
  ⟨h.hB.trans (hb.mono h.hB.size), h.hD.later hb, h.hrd.later hb, h.hX.later hb, h.hY.later hb, h.hrx.later hb, h.hry.later hb, h.lx, h.ly, h.dx, h.rd, h.rx, h.ry⟩
theorem T7.wire {d : Cf} {da : Option Addr} {dc db xb yb : Nat} {X Y : Fr} {xa : Option Addr} {xc : Nat} {ya : Option Addr} {yc : Nat} {w W : World} (h : T7 d da dc db xb yb X Y xa xc ya yc w W) (R : Int) :
    T7 d da dc db xb yb { X with R := R } { Y with R := R } xa xc ya yc w ((W.setCell ⟨xb, 1, none⟩ (.int .i64 R)).setCell ⟨yb, 1, none⟩ (.int .i64 R)) := by
  have e1 : Blk (W.setCell ⟨xb, 1, none⟩ (.int .i64 R)) xb 29 ((frBox X xa xc).setIfInBounds 1 (.int .i64 R)) := h.hX.set 1 _
  have e2 : Blk ((W.setCell ⟨xb, 1, none⟩ (.int .i64 R)).setCell ⟨yb, 1, none⟩ (.int .i64 R)) yb 29 ((frBox Y ya yc).setIfInBounds 1 (.int .i64 R)) := by
    by_cases e : yb = xb
    · subst e
      have := (h.hY.set 1 (.int .i64 R)).set 1 (.int .i64 R)
      rw [Array.setIfInBounds_setIfInBounds] at this
      exact this
    · exact (h.hY.far (p := ⟨xb, 1, none⟩) e _).set 1 _
  refine ⟨(h.hB.setCell (p := ⟨xb, 1, none⟩) h.lx _).setCell (p := ⟨yb, 1, none⟩) h.ly _, (h.hD.far (p := ⟨xb, 1, none⟩) h.dx.1 _).far (p := ⟨yb, 1, none⟩) h.dx.2 _, (h.hrd.farR xb 1 _ (h.rd.imp id fun q x e => (q x e).1)).farR yb 1 _ (h.rd.imp id fun q x e => (q x e).2),
    blk_again e1, e2, (h.hrx.far2 xb 1 _ (h.rx.imp id fun q x e => (q x e).1)).far2 yb 1 _ (h.rx.imp id fun q x e => (q x e).2), (h.hry.far2 xb 1 _ (h.ry.imp id fun q x e => (q x e).1)).far2 yb 1 _ (h.ry.imp id fun q x e => (q x e).2), h.lx, h.ly, h.dx, h.rd, h.rx, h.ry⟩

theorem T7.mid {d : Cf} {da : Option Addr} {dc db xb yb : Nat} {X Y : Fr} {xa : Option Addr} {xc : Nat} {ya : Option Addr} {yc : Nat} {w W : World} (h : T7 d da dc db xb yb X Y xa xc ya yc w W) (R : Int) :
    ∃ v, (W.setCell ⟨xb, 1, none⟩ (.int .i64 R)).cell? ⟨yb, 1, none⟩ = some v ∧ ∀ i, (W.setCell ⟨xb, 1, none⟩ (.int .i64 R)).frozen? ⟨yb, i, none⟩ = false := by
  by_cases e : yb = xb
  · subst e
    have e1 : Blk (W.setCell ⟨yb, 1, none⟩ (.int .i64 R)) yb 29 ((frBox Y ya yc).setIfInBounds 1 (.int .i64 R)) := h.hY.set 1 _
    exact ⟨.int .i64 R, (e1.at 1).trans rfl, e1.frozen⟩
  · have e1 := h.hY.far (p := ⟨xb, 1, none⟩) e (.int .i64 R)
    exact ⟨.int .i64 Y.R, (e1.at 1).trans rfl, e1.frozen⟩

/-- The array of the two sides. -/
def arr2 (u0 u1 : List UInt8) (f0 f1 : Int) : Array Value := #[.string ⟨#[]⟩, .string ⟨#[]⟩, .string ⟨u0.toArray⟩, .int .i64 f0, .string ⟨#[]⟩, .string ⟨#[]⟩, .string ⟨u1.toArray⟩, .int .i64 f1]

/-- What holds while the sides are laid. -/
structure TuM (d : Cf) (da : Option Addr) (dc db xb lb ab : Nat) (fx : Fr) (xa : Option Addr) (xc : Nat) (ls : Array Value) (u0 u1 : List UInt8) (f0 f1 : Int) (w W : World) : Prop where
  hB : Below w.heap.size w W
  hD : Blk W db 24 (confBox d da dc)
  hrd : Row W da d.P
  hX : Blk W xb 29 (frBox fx xa xc)
  hL : Blk W lb 9 ls
  hA : Blk W ab 46 (arr2 u0 u1 f0 f1)
  la : w.heap.size ≤ ab
  na : db ≠ ab ∧ xb ≠ ab ∧ lb ≠ ab
  nd : d.P = [] ∨ ∀ x, da = some x → x.block ≠ ab
theorem blk_far44 {W : World} {g g2 : Nat} {t : TypeId} {cs : Array Value} (h : Blk W g t cs) (hne : g ≠ g2) (i0 i1 i2 i3 : Nat) (u0 u1 u2 u3 : Value) : Blk ((((W.setCell ⟨g2, i0, none⟩ u0).setCell ⟨g2, i1, none⟩ u1).setCell ⟨g2, i2, none⟩ u2).setCell ⟨g2, i3, none⟩ u3) g t cs :=
  (((h.far (p := ⟨g2, i0, none⟩) hne u0).far (p := ⟨g2, i1, none⟩) hne u1).far (p := ⟨g2, i2, none⟩) hne u2).far (p := ⟨g2, i3, none⟩) hne u3
theorem TuM.put {d : Cf} {da : Option Addr} {dc db xb lb ab : Nat} {fx : Fr} {xa : Option Addr} {xc : Nat} {ls : Array Value} {u0 u1 v0 v1 : List UInt8} {f0 f1 g0 g1 : Int} {w W : World} (h : TuM d da dc db xb lb ab fx xa xc ls u0 u1 f0 f1 w W) (i0 i1 i2 i3 : Nat) (c0 c1 c2 c3 : Value)
    (hA : Blk ((((W.setCell ⟨ab, i0, none⟩ c0).setCell ⟨ab, i1, none⟩ c1).setCell ⟨ab, i2, none⟩ c2).setCell ⟨ab, i3, none⟩ c3) ab 46 (arr2 v0 v1 g0 g1)) :
    TuM d da dc db xb lb ab fx xa xc ls v0 v1 g0 g1 w ((((W.setCell ⟨ab, i0, none⟩ c0).setCell ⟨ab, i1, none⟩ c1).setCell ⟨ab, i2, none⟩ c2).setCell ⟨ab, i3, none⟩ c3) :=
  ⟨(((h.hB.setCell (p := ⟨ab, i0, none⟩) h.la c0).setCell (p := ⟨ab, i1, none⟩) h.la c1).setCell (p := ⟨ab, i2, none⟩) h.la c2).setCell (p := ⟨ab, i3, none⟩) h.la c3, blk_far44 h.hD h.na.1 _ _ _ _ _ _ _ _, (((h.hrd.farR ab i0 c0 h.nd).farR ab i1 c1 h.nd).farR ab i2 c2 h.nd).farR ab i3 c3 h.nd, blk_far44 h.hX h.na.2.1 _ _ _ _ _ _ _ _, blk_far44 h.hL h.na.2.2 _ _ _ _ _ _ _ _, hA, h.la, h.na, h.nd⟩
theorem arr_put0 {W : World} {ab : Nat} {u1 : List UInt8} {f1 : Int} {u0 : List UInt8} {f0 : Int} (h : Blk W ab 46 (arr2 u0 u1 f0 f1)) (u : List UInt8) (f : Int) :
    Blk ((((W.setCell ⟨ab, 0, none⟩ (.string ⟨#[]⟩)).setCell ⟨ab, 1, none⟩ (.string ⟨#[]⟩)).setCell ⟨ab, 2, none⟩ (.string ⟨u.toArray⟩)).setCell ⟨ab, 3, none⟩ (.int .i64 f)) ab 46 (arr2 u u1 f f1) := by
  have k0 : Blk (W.setCell ⟨ab, 0, none⟩ (.string ⟨#[]⟩)) ab 46 (arr2 u0 u1 f0 f1) := h.set 0 _
  have k1 : Blk ((W.setCell ⟨ab, 0, none⟩ (.string ⟨#[]⟩)).setCell ⟨ab, 1, none⟩ (.string ⟨#[]⟩)) ab 46 (arr2 u0 u1 f0 f1) := k0.set 1 _
  have k2 : Blk (((W.setCell ⟨ab, 0, none⟩ (.string ⟨#[]⟩)).setCell ⟨ab, 1, none⟩ (.string ⟨#[]⟩)).setCell ⟨ab, 2, none⟩ (.string ⟨u.toArray⟩)) ab 46 (arr2 u u1 f0 f1) := k1.set 2 _
  exact k2.set 3 _
theorem arr_put1 {W : World} {ab : Nat} {u1 : List UInt8} {f1 : Int} {u0 : List UInt8} {f0 : Int} (h : Blk W ab 46 (arr2 u0 u1 f0 f1)) (u : List UInt8) (f : Int) :
    Blk ((((W.setCell ⟨ab, 4, none⟩ (.string ⟨#[]⟩)).setCell ⟨ab, 5, none⟩ (.string ⟨#[]⟩)).setCell ⟨ab, 6, none⟩ (.string ⟨u.toArray⟩)).setCell ⟨ab, 7, none⟩ (.int .i64 f)) ab 46 (arr2 u0 u f0 f) := by
  have k0 : Blk (W.setCell ⟨ab, 4, none⟩ (.string ⟨#[]⟩)) ab 46 (arr2 u0 u1 f0 f1) := h.set 4 _
  have k1 : Blk ((W.setCell ⟨ab, 4, none⟩ (.string ⟨#[]⟩)).setCell ⟨ab, 5, none⟩ (.string ⟨#[]⟩)) ab 46 (arr2 u0 u1 f0 f1) := k0.set 5 _
  have k2 : Blk (((W.setCell ⟨ab, 4, none⟩ (.string ⟨#[]⟩)).setCell ⟨ab, 5, none⟩ (.string ⟨#[]⟩)).setCell ⟨ab, 6, none⟩ (.string ⟨u.toArray⟩)) ab 46 (arr2 u0 u f0 f1) := k1.set 6 _
  exact k2.set 7 _
theorem ls_get {W : World} {lb : Nat} {t : TypeId} {tx ty : List UInt8} (n : Nat) (hn : n < 4) (h : Blk W lb t #[.string ⟨tx.toArray⟩, .string ⟨ty.toArray⟩, .string ⟨#[]⟩, .string ⟨#[48, 49, 35]⟩]) (lx : tx.length ≤ 1048576) (ly : ty.length ≤ 1048576) :
    ∃ u : List UInt8, u.length ≤ 1048576 ∧ W.cell? ⟨lb, n, none⟩ = some (.string ⟨u.toArray⟩) := by
  rcases (by omega : n = 0 ∨ n = 1 ∨ n = 2 ∨ n = 3) with rfl | rfl | rfl | rfl
  · exact ⟨tx, lx, h.at 0⟩
  · exact ⟨ty, ly, h.at 1⟩
  · exact ⟨[], by decide, h.at 2⟩
  · exact ⟨[48, 49, 35], by decide, h.at 3⟩
def TuAt (d : Cf) (da : Option Addr) (dc db xb lb ab : Nat) (fx : Fr) (xa : Option Addr) (xc : Nat) (ls : Array Value) (w : World) (i : Value) (W : World) : Prop :=
  (i = .int .i64 0 ∧ TuM d da dc db xb lb ab fx xa xc ls [] [] 0 0 w W) ∨ (∃ u0, u0.length ≤ 1048576 ∧ i = .int .i64 1 ∧ TuM d da dc db xb lb ab fx xa xc ls u0 [] 2 0 w W) ∨ (∃ u0 u1, u0.length ≤ 1048576 ∧ u1.length ≤ 1048576 ∧ i = .int .i64 2 ∧ TuM d da dc db xb lb ab fx xa xc ls u0 u1 2 3 w W)


set_option maxHeartbeats 3200000 in
theorem arbTurned_walk (c : Cf) (a : Option Addr) (cap : Nat) (f : Fr) (fa : Option Addr) (fc : Nat) (g : Fr) (ga : Option Addr) (gc : Nat) (na : Option Addr) (ns : List Int) (nc : Nat) (ma : Option Addr) (ms : List Int) (mc : Nat) (pa : Option Addr) (ps : List Int) (pc : Nat) (rd : Int) (w : World) (hbd : Bnds w)
    (hrow : Row w a c.P) (iN : inI c.N) (iP : inI c.Pi) (iE : inI c.E) (iG : inI c.G) (iF : inI c.F) (hfE : RowT w fa f.E) (iK : inI f.K) (iR : inI f.R) (iS : inI f.S) (iQ : inI f.P.K) (iV : inI f.P.V) (hgE : RowT w ga g.E) (jK : inI g.K) (jR : inI g.R) (jS : inI g.S) (jQ : inI g.P.K) (jV : inI g.P.V)
    (hns : Row w na ns) (hms : Row w ma ms) (hps : Row w pa ps) (r1 : -9223372036854775808 ≤ rd) (r2 : rd ≤ 9223372036854775807) :
    Calls Tryd.prog 8 #[.agg #[.int .i64 c.N, .int .i64 c.Pi, .int .i64 c.E, .int .i64 c.G, .int .i64 c.F, .slice a c.P.length cap], .agg #[.int .i64 f.K, .int .i64 f.R, .int .i64 f.S, .int .i64 f.P.K, .int .i64 f.P.V, .slice fa f.E.length fc], .agg #[.int .i64 g.K, .int .i64 g.R, .int .i64 g.S, .int .i64 g.P.K, .int .i64 g.P.V, .slice ga g.E.length gc], .slice na ns.length nc, .slice ma ms.length mc, .slice pa ps.length pc, .int .i64 rd] w fun e w' => e = .returned (.bool true) ∧ Below w.heap.size w w' := by
  have hB : Below w.heap.size w (((w.alloc (.cells #[.int .i64 c.N, .int .i64 c.Pi, .int .i64 c.E, .int .i64 c.G, .int .i64 c.F, .slice a c.P.length cap] 24)).alloc (.cells #[.int .i64 f.K, .int .i64 f.R, .int .i64 f.S, .int .i64 f.P.K, .int .i64 f.P.V, .slice fa f.E.length fc] 29)).alloc (.cells #[.int .i64 g.K, .int .i64 g.R, .int .i64 g.S, .int .i64 g.P.K, .int .i64 g.P.V, .slice ga g.E.length gc] 29)) := ((alloc_below w _).alloc (by simp) _).alloc (by simp; omega) _
  have hC : Blk (((w.alloc (.cells #[.int .i64 c.N, .int .i64 c.Pi, .int .i64 c.E, .int .i64 c.G, .int .i64 c.F, .slice a c.P.length cap] 24)).alloc (.cells #[.int .i64 f.K, .int .i64 f.R, .int .i64 f.S, .int .i64 f.P.K, .int .i64 f.P.V, .slice fa f.E.length fc] 29)).alloc (.cells #[.int .i64 g.K, .int .i64 g.R, .int .i64 g.S, .int .i64 g.P.K, .int .i64 g.P.V, .slice ga g.E.length gc] 29)) w.heap.size 24 (confBox c a cap) := ((Blk.new w _ _).alloc _).alloc _
  have hF : Blk (((w.alloc (.cells #[.int .i64 c.N, .int .i64 c.Pi, .int .i64 c.E, .int .i64 c.G, .int .i64 c.F, .slice a c.P.length cap] 24)).alloc (.cells #[.int .i64 f.K, .int .i64 f.R, .int .i64 f.S, .int .i64 f.P.K, .int .i64 f.P.V, .slice fa f.E.length fc] 29)).alloc (.cells #[.int .i64 g.K, .int .i64 g.R, .int .i64 g.S, .int .i64 g.P.K, .int .i64 g.P.V, .slice ga g.E.length gc] 29)) (w.heap.size + 1) 29 (frBox f fa fc) := (Blk.newAt _ _ (by simp)).alloc _
  have hG : Blk (((w.alloc (.cells #[.int .i64 c.N, .int .i64 c.Pi, .int .i64 c.E, .int .i64 c.G, .int .i64 c.F, .slice a c.P.length cap] 24)).alloc (.cells #[.int .i64 f.K, .int .i64 f.R, .int .i64 f.S, .int .i64 f.P.K, .int .i64 f.P.V, .slice fa f.E.length fc] 29)).alloc (.cells #[.int .i64 g.K, .int .i64 g.R, .int .i64 g.S, .int .i64 g.P.K, .int .i64 g.P.V, .slice ga g.E.length gc] 29)) (w.heap.size + 1 + 1) 29 (frBox g ga gc) := Blk.newAt _ _ (by simp)
  go_enter Tryd.func8, Tryd.ntmps8
  go_upto_region 1 with fail
  generalize (((w.alloc (.cells #[.int .i64 c.N, .int .i64 c.Pi, .int .i64 c.E, .int .i64 c.G, .int .i64 c.F, .slice a c.P.length cap] 24)).alloc (.cells #[.int .i64 f.K, .int .i64 f.R, .int .i64 f.S, .int .i64 f.P.K, .int .i64 f.P.V, .slice fa f.E.length fc] 29)).alloc (.cells #[.int .i64 g.K, .int .i64 g.R, .int .i64 g.S, .int .i64 g.P.K, .int .i64 g.P.V, .slice ga g.E.length gc] 29)) = w1 at *
  go_wp2_with fail
  refine (known10_any _ (hbd.later hB)).mono ?_
  rintro e w2 ⟨rfl, hb⟩
  replace hB := hB.trans (hb.mono hB.size)
  replace hC := hC.later hb
  replace hF := hF.later hb
  replace hG := hG.later hb
  clear hb
  have qC := hC.at
  unfold confBox at qC
  go_wp2_with fail
  refine (make_any c a cap _ (hrow.later hB)).mono ?_
  rintro e wm ⟨da, dc, rfl, hrd, hfd, hb⟩
  have hwl := hG.lt
  replace hB := hB.trans (hb.mono hB.size)
  replace hF := hF.later hb
  replace hG := hG.later hb
  replace hfd : ∀ x, da = some x → w.heap.size + 1 + 1 < x.block := fun x hx => by have := hfd x hx; omega
  clear hb qC hC
  have hok := makeC_ok c
  generalize makeC c = d at *
  have hdl := hG.lt
  have hdn := hrd.ltR
  have hD : Blk (wm.alloc (.cells #[.int .i64 d.N, .int .i64 d.Pi, .int .i64 d.E, .int .i64 d.G, .int .i64 d.F, .slice da d.P.length dc] 24)) wm.heap.size 24 (confBox d da dc) := Blk.new wm _ _
  replace hB := hB.alloc hB.size (.cells #[.int .i64 d.N, .int .i64 d.Pi, .int .i64 d.E, .int .i64 d.G, .int .i64 d.F, .slice da d.P.length dc] 24)
  replace hF := hF.alloc (.cells #[.int .i64 d.N, .int .i64 d.Pi, .int .i64 d.E, .int .i64 d.G, .int .i64 d.F, .slice da d.P.length dc] 24)
  replace hG := hG.alloc (.cells #[.int .i64 d.N, .int .i64 d.Pi, .int .i64 d.E, .int .i64 d.G, .int .i64 d.F, .slice da d.P.length dc] 24)
  replace hrd := hrd.alloc (.cells #[.int .i64 d.N, .int .i64 d.Pi, .int .i64 d.E, .int .i64 d.G, .int .i64 d.F, .slice da d.P.length dc] 24)
  go_upto_region 4 with fail
  generalize wm.alloc (.cells #[.int .i64 d.N, .int .i64 d.Pi, .int .i64 d.E, .int .i64 d.G, .int .i64 d.F, .slice da d.P.length dc] 24) = wn at *
  generalize wm.heap.size = db at *
  go_wp2_with fail
  refine (within10_any rd 100 _ (by omega) (by omega)).mono ?_
  rintro e wl ⟨rfl, rfl⟩
  have x0 := Int.emod_nonneg rd (show (100 : Int) ≠ 0 by omega)
  have x1 := Int.emod_lt_of_pos rd (show (0 : Int) < 100 by omega)
  generalize rd % 100 = r at *
  have qF := hF.at
  unfold frBox at qF
  have fF := hF.frozen
  have fG := hG.frozen
  have qG := hG.at
  unfold frBox at qG
  have HW6 := Lib.hid (fun W => within10_any f.S 6 W (by unfold inI at iS; omega) (by omega))
  have y0 := Int.emod_nonneg f.S (show (6 : Int) ≠ 0 by omega)
  have y1 := Int.emod_lt_of_pos f.S (show (0 : Int) < 6 by omega)
  generalize f.S % 6 = s6 at *
  go_upto_region 5 with fail
  go_cut [35] (fun s wx => s = .int .i64 s6 ∧ wx = ((wn.setCell ⟨w.heap.size + 1, 2, none⟩ (.int .i64 s6)).setCell ⟨w.heap.size + 1 + 1, 2, none⟩ (.int .i64 s6)).drew)
  case first =>
    go_region_with ((go_at_call 11; refine (HW6.out _).mono ?_; rintro e wl ⟨rfl, rfl⟩))
    all_goals go_wp2_with fail
    all_goals go_meet
    all_goals exact ⟨rfl, rfl⟩
  case rest =>
    obtain ⟨rfl, rfl⟩ := hcut
    clear qF fF qG fG HW6
    obtain ⟨f2, hf2⟩ : ∃ f2 : Fr, f2 = { f with S := s6 } := ⟨_, rfl⟩
    obtain ⟨g2, hg2⟩ : ∃ g2 : Fr, g2 = { g with S := s6 } := ⟨_, rfl⟩
    have hF2 : Blk ((wn.setCell ⟨w.heap.size + 1, 2, none⟩ (.int .i64 s6)).setCell ⟨w.heap.size + 1 + 1, 2, none⟩ (.int .i64 s6)) (w.heap.size + 1) 29 (frBox f2 fa fc) := by
      subst hf2
      exact (hF.set 2 _).far (p := ⟨w.heap.size + 1 + 1, 2, none⟩) (by show w.heap.size + 1 ≠ w.heap.size + 1 + 1; omega) _
    have hG2 : Blk ((wn.setCell ⟨w.heap.size + 1, 2, none⟩ (.int .i64 s6)).setCell ⟨w.heap.size + 1 + 1, 2, none⟩ (.int .i64 s6)) (w.heap.size + 1 + 1) 29 (frBox g2 ga gc) := by
      subst hg2
      exact (hG.far (p := ⟨w.heap.size + 1, 2, none⟩) (by show w.heap.size + 1 + 1 ≠ w.heap.size + 1; omega) _).set 2 _
    replace hD := (hD.far (p := ⟨w.heap.size + 1, 2, none⟩) (by show db ≠ w.heap.size + 1; omega) (.int .i64 s6)).far (p := ⟨w.heap.size + 1 + 1, 2, none⟩) (by show db ≠ w.heap.size + 1 + 1; omega) (.int .i64 s6)
    replace hrd := (hrd.farR (w.heap.size + 1) 2 (.int .i64 s6) (.inr fun x hx => by have := hfd x hx; omega)).farR (w.heap.size + 1 + 1) 2 (.int .i64 s6) (.inr fun x hx => by have := hfd x hx; omega)
    replace hB := (hB.setCell (p := ⟨w.heap.size + 1, 2, none⟩) (by show w.heap.size ≤ w.heap.size + 1; omega) (.int .i64 s6)).setCell (p := ⟨w.heap.size + 1 + 1, 2, none⟩) (by show w.heap.size ≤ w.heap.size + 1 + 1; omega) (.int .i64 s6)
    have iS2 : inI f2.S := by subst hf2; exact ⟨by show _ ≤ s6; omega, by show s6 ≤ _; omega⟩
    have jS2 : inI g2.S := by subst hg2; exact ⟨by show _ ≤ s6; omega, by show s6 ≤ _; omega⟩
    have iK2 : inI f2.K := by subst hf2; exact iK
    have iR2 : inI f2.R := by subst hf2; exact iR
    have iV2 : inI f2.P.V := by subst hf2; exact iV
    have jK2 : inI g2.K := by subst hg2; exact jK
    have jR2 : inI g2.R := by subst hg2; exact jR
    have jV2 : inI g2.P.V := by subst hg2; exact jV
    clear hf2 hg2 hF hG
    replace hB := hB.drew
    replace hD := hD.drew1
    replace hrd := hrd.drew1
    replace hF2 := hF2.drew1
    replace hG2 := hG2.drew1
    generalize ((wn.setCell ⟨w.heap.size + 1, 2, none⟩ (.int .i64 s6)).setCell ⟨w.heap.size + 1 + 1, 2, none⟩ (.int .i64 s6)).drew = w4 at *
    have HM1 := Lib.hid (fun W (h : Row W na ns) => make5_any d da dc f2 fa fc na ns nc W hok h iK2 iR2 iS2 iV2)
    have HM2 := Lib.hid (fun W (h : Row W ma ms) => make5_any d da dc g2 ga gc ma ms mc W hok h jK2 jR2 jS2 jV2)
    have hokX := makeF_ok d f2 ns hok
    have hokY := makeF_ok d g2 ms hok
    generalize makeF d f2 ns = X0 at *
    generalize makeF d g2 ms = Y0 at *
    clear iS2 jS2 iK2 iR2 iV2 jK2 jR2 jV2
    go_upto_region 6 with fail
    refine region_slots [some 41, some 42, some 43, some 44, some 45, some 46, some 47, some 48, some 17, some 18, none, none] [none, none, none, none, none, none, none, none, none, none, some 8, some 9] 119 12 rfl (by kernel_rfl) (by kernel_rfl) rfl rfl ?_
    apply step_fix
    · intro a W Zs hS hFm hz hd
      have h15 := hFm.old 15 rfl
      conv at h15 => rhs; whnf
      replace h15 := ev_get hFm.size h15
      have hq := (hD.drew1.later hS).at
      unfold confBox at hq
      refine .inl ⟨wanted_none rfl _, fun K hK => ?_⟩
      have HK := Lib.hid hK
      clear hd hFm hK
      go_simp
      exact HK.out _ _ rfl (Below.refl _ _)
    simp only [List.nil_append, List.cons_append]
    apply step_fix
    · intro a W Zs hS hFm hz hd
      have h8 := hFm.old 8 rfl
      conv at h8 => rhs; whnf
      replace h8 := ev_get hFm.size h8
      have hq := (hF2.drew1.later hS).at
      unfold frBox at hq
      refine .inl ⟨wanted_none rfl _, fun K hK => ?_⟩
      have HK := Lib.hid hK
      clear hd hFm hK
      go_simp
      exact HK.out _ _ rfl (Below.refl _ _)
    simp only [List.nil_append, List.cons_append]
    apply step_fix
    · intro a W Zs hS hFm hz hd
      have h3 := hFm.old 3 rfl
      conv at h3 => rhs; whnf
      replace h3 := ev_get hFm.size h3
      refine .inl ⟨wanted_none rfl _, fun K hK => ?_⟩
      have HK := Lib.hid hK
      clear hd hFm hK
      go_simp
      exact HK.out _ _ rfl (Below.refl _ _)
    simp only [List.nil_append, List.cons_append]
    refine step_of (frF _ (X0)) (frF_good _ _) ?_ ?_
    · intro a W Zs hS hFm hz hd
      have h41 := ev_get hFm.size (hd 0 41 rfl rfl)
      have h42 := ev_get hFm.size (hd 1 42 rfl rfl)
      have h43 := ev_get hFm.size (hd 2 43 rfl rfl)
      refine .inl ⟨wanted_none rfl _, fun K hK => ?_⟩
      have HK := Lib.hid hK
      clear hd hFm hK
      go_simp
      refine (HM1.out _ ((hns.later hB).later (from_drew hS))).mono ?_
      rintro e W' ⟨ra, rc, rfl, hr, hfr, hb⟩
      exact HK.out _ _ ⟨ra, rc, rfl, hr, hr.foot hfr⟩ hb
    simp only [List.nil_append, List.cons_append]
    apply step_fix
    · intro a W Zs hS hFm hz hd
      have h15 := hFm.old 15 rfl
      conv at h15 => rhs; whnf
      replace h15 := ev_get hFm.size h15
      have hq := (hD.drew1.later hS).at
      unfold confBox at hq
      refine .inl ⟨wanted_none rfl _, fun K hK => ?_⟩
      have HK := Lib.hid hK
      clear hd hFm hK
      go_simp
      exact HK.out _ _ rfl (Below.refl _ _)
    simp only [List.nil_append, List.cons_append]
    apply step_fix
    · intro a W Zs hS hFm hz hd
      have h9 := hFm.old 9 rfl
      conv at h9 => rhs; whnf
      replace h9 := ev_get hFm.size h9
      have hq := (hG2.drew1.later hS).at
      unfold frBox at hq
      refine .inl ⟨wanted_none rfl _, fun K hK => ?_⟩
      have HK := Lib.hid hK
      clear hd hFm hK
      go_simp
      exact HK.out _ _ rfl (Below.refl _ _)
    simp only [List.nil_append, List.cons_append]
    apply step_fix
    · intro a W Zs hS hFm hz hd
      have h4 := hFm.old 4 rfl
      conv at h4 => rhs; whnf
      replace h4 := ev_get hFm.size h4
      refine .inl ⟨wanted_none rfl _, fun K hK => ?_⟩
      have HK := Lib.hid hK
      clear hd hFm hK
      go_simp
      exact HK.out _ _ rfl (Below.refl _ _)
    simp only [List.nil_append, List.cons_append]
    refine step_of (frF _ (Y0)) (frF_good _ _) ?_ ?_
    · intro a W Zs hS hFm hz hd
      have h45 := ev_get hFm.size (hd 4 45 rfl rfl)
      have h46 := ev_get hFm.size (hd 5 46 rfl rfl)
      have h47 := ev_get hFm.size (hd 6 47 rfl rfl)
      refine .inl ⟨wanted_none rfl _, fun K hK => ?_⟩
      have HK := Lib.hid hK
      clear hd hFm hK
      go_simp
      refine (HM2.out _ ((hms.later hB).later (from_drew hS))).mono ?_
      rintro e W' ⟨ra, rc, rfl, hr, hfr, hb⟩
      exact HK.out _ _ ⟨ra, rc, rfl, hr, hr.foot hfr⟩ hb
    simp only [List.nil_append, List.cons_append]
    refine step_of (boxF _ 29 6) (boxF_good _ _ _) ?_ ?_
    · intro a W Zs hS hFm hz hd
      refine .inl ⟨wanted_none rfl _, fun K hK => ?_⟩
      have HK := Lib.hid hK
      clear hd hFm hK
      go_simp
      exact HK.out _ _ ⟨_, _, rfl, rfl, Blk.new _ _ _, .inl ⟨Nat.le_refl _, by simp⟩⟩ (alloc_below _ _)
    simp only [List.nil_append, List.cons_append]
    refine step_of (boxF _ 29 6) (boxF_good _ _ _) ?_ ?_
    · intro a W Zs hS hFm hz hd
      refine .inl ⟨wanted_none rfl _, fun K hK => ?_⟩
      have HK := Lib.hid hK
      clear hd hFm hK
      go_simp
      exact HK.out _ _ ⟨_, _, rfl, rfl, Blk.new _ _ _, .inl ⟨Nat.le_refl _, by simp⟩⟩ (alloc_below _ _)
    simp only [List.nil_append, List.cons_append]
    refine step_of (frBoxF _ (X0)) (frBoxF_good _ _) ?_ ?_
    · intro a W Zs hS hFm hz hd hap
      obtain ⟨b17, cs17, e17, n17, q17, z17⟩ := hd 8 17 rfl rfl
      have h17 := ev_get hFm.size e17
      obtain ⟨a44, c44, e44, r44, f44⟩ := hd 3 44 rfl rfl
      have h44 := ev_get hFm.size e44
      have hB0 := (hz 8 _ rfl z17).1
      obtain ⟨u0, u1, u2, u3, u4, u5, rfl⟩ := arr6 n17
      have hq := q17.at
      have hfz := q17.frozen
      refine ⟨wanted_none rfl _, b17, z17, fun K hK => ?_⟩
      have HK := Lib.hid hK
      clear hd hFm hK
      go_simp
      exact HK.out undef _ (Only.fill6 _ _ _ _ _ _ _ _) (fun d hd' => by injection hd' with hd'; subst hd'; exact ⟨⟨b17, a44, c44, e17, q17.fill6 _ _ _ _ _ _, r44.agree f44 (store_apart (Only.fill6 W b17 _ _ _ _ _ _) hB0 z17 hap 3 rfl (by decide)), .inr (.inl rfl), ft_mono f44 (foot_depS 3 rfl rfl rfl)⟩, ⟨b17, _, e17, rfl, q17.fill6 _ _ _ _ _ _, z17⟩⟩)
    simp only [List.nil_append, List.cons_append]
    refine step_of (frBoxF _ (Y0)) (frBoxF_good _ _) ?_ ?_
    · intro a W Zs hS hFm hz hd hap
      obtain ⟨b18, cs18, e18, n18, q18, z18⟩ := hd 9 18 rfl rfl
      have h18 := ev_get hFm.size e18
      obtain ⟨a48, c48, e48, r48, f48⟩ := hd 7 48 rfl rfl
      have h48 := ev_get hFm.size e48
      have hB0 := (hz 9 _ rfl z18).1
      obtain ⟨u0, u1, u2, u3, u4, u5, rfl⟩ := arr6 n18
      have hq := q18.at
      have hfz := q18.frozen
      refine ⟨wanted_none rfl _, b18, z18, fun K hK => ?_⟩
      have HK := Lib.hid hK
      clear hd hFm hK
      go_simp
      exact HK.out undef _ (Only.fill6 _ _ _ _ _ _ _ _) (fun d hd' => by injection hd' with hd'; subst hd'; exact ⟨⟨b18, a48, c48, e18, q18.fill6 _ _ _ _ _ _, r48.agree f48 (store_apart (Only.fill6 W b18 _ _ _ _ _ _) hB0 z18 hap 7 rfl (by decide)), .inr (.inl rfl), ft_mono f48 (foot_depS 7 rfl rfl rfl)⟩, ⟨b18, _, e18, rfl, q18.fill6 _ _ _ _ _ _, z18⟩⟩)
    simp only [List.nil_append, List.cons_append]
    intro a w5 Zs hS hFm hz hd
    obtain ⟨b17, a17, c17, e17, q17, r17, f17, g17⟩ := hd 10 17 (by decide) rfl
    obtain ⟨bz, csz, ez, nz, qz, zz⟩ := hd 8 17 (by decide) rfl
    have nb17 := ptr_new ez e17 (hz 8 (by decide) bz zz)
    clear zz qz nz ez
    clear csz bz
    obtain ⟨b18, a18, c18, e18, q18, r18, f18, g18⟩ := hd 11 18 (by decide) rfl
    obtain ⟨bz, csz, ez, nz, qz, zz⟩ := hd 9 18 (by decide) rfl
    have nb18 := ptr_new ez e18 (hz 9 (by decide) bz zz)
    clear zz qz nz ez
    clear csz bz
    have e0 := hFm.old 0 rfl
    conv at e0 => rhs; whnf
    have e1 := hFm.old 1 rfl
    conv at e1 => rhs; whnf
    have e2 := hFm.old 2 rfl
    conv at e2 => rhs; whnf
    have e3 := hFm.old 3 rfl
    conv at e3 => rhs; whnf
    have e4 := hFm.old 4 rfl
    conv at e4 => rhs; whnf
    have e5 := hFm.old 5 rfl
    conv at e5 => rhs; whnf
    have e6 := hFm.old 6 rfl
    conv at e6 => rhs; whnf
    have e7 := hFm.old 7 rfl
    conv at e7 => rhs; whnf
    have e8 := hFm.old 8 rfl
    conv at e8 => rhs; whnf
    have e9 := hFm.old 9 rfl
    conv at e9 => rhs; whnf
    have e10 := hFm.old 10 rfl
    conv at e10 => rhs; whnf
    have e11 := hFm.old 11 rfl
    conv at e11 => rhs; whnf
    have e12 := hFm.old 12 rfl
    conv at e12 => rhs; whnf
    have e13 := hFm.old 13 rfl
    conv at e13 => rhs; whnf
    have e14 := hFm.old 14 rfl
    conv at e14 => rhs; whnf
    have e15 := hFm.old 15 rfl
    conv at e15 => rhs; whnf
    have e16 := hFm.old 16 rfl
    conv at e16 => rhs; whnf
    have e19 := hFm.old 19 rfl
    conv at e19 => rhs; whnf
    have e20 := hFm.old 20 rfl
    conv at e20 => rhs; whnf
    have e21 := hFm.old 21 rfl
    conv at e21 => rhs; whnf
    have e22 := hFm.old 22 rfl
    conv at e22 => rhs; whnf
    have e23 := hFm.old 23 rfl
    conv at e23 => rhs; whnf
    have e24 := hFm.old 24 rfl
    conv at e24 => rhs; whnf
    have e25 := hFm.old 25 rfl
    conv at e25 => rhs; whnf
    have e26 := hFm.old 26 rfl
    conv at e26 => rhs; whnf
    have e27 := hFm.old 27 rfl
    conv at e27 => rhs; whnf
    have e28 := hFm.old 28 rfl
    conv at e28 => rhs; whnf
    have e29 := hFm.old 29 rfl
    conv at e29 => rhs; whnf
    have e30 := hFm.old 30 rfl
    conv at e30 => rhs; whnf
    have e31 := hFm.old 31 rfl
    conv at e31 => rhs; whnf
    have e32 := hFm.old 32 rfl
    conv at e32 => rhs; whnf
    have e33 := hFm.old 33 rfl
    conv at e33 => rhs; whnf
    have e34 := hFm.old 34 rfl
    conv at e34 => rhs; whnf
    have e35 := hFm.old 35 rfl
    conv at e35 => rhs; whnf
    have e36 := hFm.old 36 rfl
    conv at e36 => rhs; whnf
    have e37 := hFm.old 37 rfl
    conv at e37 => rhs; whnf
    have e38 := hFm.old 38 rfl
    conv at e38 => rhs; whnf
    have e39 := hFm.old 39 rfl
    conv at e39 => rhs; whnf
    have e40 := hFm.old 40 rfl
    conv at e40 => rhs; whnf
    have e49 := hFm.old 49 rfl
    conv at e49 => rhs; whnf
    have e50 := hFm.old 50 rfl
    conv at e50 => rhs; whnf
    have e51 := hFm.old 51 rfl
    conv at e51 => rhs; whnf
    have e52 := hFm.old 52 rfl
    conv at e52 => rhs; whnf
    have e53 := hFm.old 53 rfl
    conv at e53 => rhs; whnf
    have e54 := hFm.old 54 rfl
    conv at e54 => rhs; whnf
    have e55 := hFm.old 55 rfl
    conv at e55 => rhs; whnf
    have e56 := hFm.old 56 rfl
    conv at e56 => rhs; whnf
    have e57 := hFm.old 57 rfl
    conv at e57 => rhs; whnf
    have e58 := hFm.old 58 rfl
    conv at e58 => rhs; whnf
    have e59 := hFm.old 59 rfl
    conv at e59 => rhs; whnf
    have e60 := hFm.old 60 rfl
    conv at e60 => rhs; whnf
    have e61 := hFm.old 61 rfl
    conv at e61 => rhs; whnf
    have e62 := hFm.old 62 rfl
    conv at e62 => rhs; whnf
    have e63 := hFm.old 63 rfl
    conv at e63 => rhs; whnf
    have e64 := hFm.old 64 rfl
    conv at e64 => rhs; whnf
    have e65 := hFm.old 65 rfl
    conv at e65 => rhs; whnf
    have e66 := hFm.old 66 rfl
    conv at e66 => rhs; whnf
    have e67 := hFm.old 67 rfl
    conv at e67 => rhs; whnf
    have e68 := hFm.old 68 rfl
    conv at e68 => rhs; whnf
    have e69 := hFm.old 69 rfl
    conv at e69 => rhs; whnf
    have e70 := hFm.old 70 rfl
    conv at e70 => rhs; whnf
    have e71 := hFm.old 71 rfl
    conv at e71 => rhs; whnf
    have e72 := hFm.old 72 rfl
    conv at e72 => rhs; whnf
    have e73 := hFm.old 73 rfl
    conv at e73 => rhs; whnf
    have e74 := hFm.old 74 rfl
    conv at e74 => rhs; whnf
    have e75 := hFm.old 75 rfl
    conv at e75 => rhs; whnf
    have e76 := hFm.old 76 rfl
    conv at e76 => rhs; whnf
    have e77 := hFm.old 77 rfl
    conv at e77 => rhs; whnf
    have e78 := hFm.old 78 rfl
    conv at e78 => rhs; whnf
    have e79 := hFm.old 79 rfl
    conv at e79 => rhs; whnf
    have e80 := hFm.old 80 rfl
    conv at e80 => rhs; whnf
    have e81 := hFm.old 81 rfl
    conv at e81 => rhs; whnf
    have e82 := hFm.old 82 rfl
    conv at e82 => rhs; whnf
    have e83 := hFm.old 83 rfl
    conv at e83 => rhs; whnf
    have e84 := hFm.old 84 rfl
    conv at e84 => rhs; whnf
    have e85 := hFm.old 85 rfl
    conv at e85 => rhs; whnf
    have e86 := hFm.old 86 rfl
    conv at e86 => rhs; whnf
    have e87 := hFm.old 87 rfl
    conv at e87 => rhs; whnf
    have e88 := hFm.old 88 rfl
    conv at e88 => rhs; whnf
    have e89 := hFm.old 89 rfl
    conv at e89 => rhs; whnf
    have e90 := hFm.old 90 rfl
    conv at e90 => rhs; whnf
    have e91 := hFm.old 91 rfl
    conv at e91 => rhs; whnf
    have e92 := hFm.old 92 rfl
    conv at e92 => rhs; whnf
    have e93 := hFm.old 93 rfl
    conv at e93 => rhs; whnf
    have e94 := hFm.old 94 rfl
    conv at e94 => rhs; whnf
    have e95 := hFm.old 95 rfl
    conv at e95 => rhs; whnf
    have e96 := hFm.old 96 rfl
    conv at e96 => rhs; whnf
    have e97 := hFm.old 97 rfl
    conv at e97 => rhs; whnf
    have e98 := hFm.old 98 rfl
    conv at e98 => rhs; whnf
    have e99 := hFm.old 99 rfl
    conv at e99 => rhs; whnf
    have e100 := hFm.old 100 rfl
    conv at e100 => rhs; whnf
    have e101 := hFm.old 101 rfl
    conv at e101 => rhs; whnf
    have e102 := hFm.old 102 rfl
    conv at e102 => rhs; whnf
    have e103 := hFm.old 103 rfl
    conv at e103 => rhs; whnf
    have e104 := hFm.old 104 rfl
    conv at e104 => rhs; whnf
    have e105 := hFm.old 105 rfl
    conv at e105 => rhs; whnf
    have e106 := hFm.old 106 rfl
    conv at e106 => rhs; whnf
    have e107 := hFm.old 107 rfl
    conv at e107 => rhs; whnf
    have e108 := hFm.old 108 rfl
    conv at e108 => rhs; whnf
    have e109 := hFm.old 109 rfl
    conv at e109 => rhs; whnf
    have e110 := hFm.old 110 rfl
    conv at e110 => rhs; whnf
    have e111 := hFm.old 111 rfl
    conv at e111 => rhs; whnf
    have e112 := hFm.old 112 rfl
    conv at e112 => rhs; whnf
    have e113 := hFm.old 113 rfl
    conv at e113 => rhs; whnf
    have e114 := hFm.old 114 rfl
    conv at e114 => rhs; whnf
    have e115 := hFm.old 115 rfl
    conv at e115 => rhs; whnf
    have e116 := hFm.old 116 rfl
    conv at e116 => rhs; whnf
    have e117 := hFm.old 117 rfl
    conv at e117 => rhs; whnf
    have e118 := hFm.old 118 rfl
    conv at e118 => rhs; whnf
    have hsz := hFm.size
    have hdf := hFm.defers
    clear hd hFm
    obtain ⟨t, df⟩ := a
    simp only at hsz hdf
    subst hdf
    obtain ⟨x, hx⟩ : ∃ x : Nat → Value, ∀ i, t.getD i undef = x i := ⟨fun i => t.getD i undef, fun _ => rfl⟩
    have h17 := (hx 17).symm.trans e17
    have h18 := (hx 18).symm.trans e18
    have h0 := (hx 0).symm.trans e0
    have h1 := (hx 1).symm.trans e1
    have h2 := (hx 2).symm.trans e2
    have h3 := (hx 3).symm.trans e3
    have h4 := (hx 4).symm.trans e4
    have h5 := (hx 5).symm.trans e5
    have h6 := (hx 6).symm.trans e6
    have h7 := (hx 7).symm.trans e7
    have h8 := (hx 8).symm.trans e8
    have h9 := (hx 9).symm.trans e9
    have h10 := (hx 10).symm.trans e10
    have h11 := (hx 11).symm.trans e11
    have h12 := (hx 12).symm.trans e12
    have h13 := (hx 13).symm.trans e13
    have h14 := (hx 14).symm.trans e14
    have h15 := (hx 15).symm.trans e15
    have h16 := (hx 16).symm.trans e16
    have h19 := (hx 19).symm.trans e19
    have h20 := (hx 20).symm.trans e20
    have h21 := (hx 21).symm.trans e21
    have h22 := (hx 22).symm.trans e22
    have h23 := (hx 23).symm.trans e23
    have h24 := (hx 24).symm.trans e24
    have h25 := (hx 25).symm.trans e25
    have h26 := (hx 26).symm.trans e26
    have h27 := (hx 27).symm.trans e27
    have h28 := (hx 28).symm.trans e28
    have h29 := (hx 29).symm.trans e29
    have h30 := (hx 30).symm.trans e30
    have h31 := (hx 31).symm.trans e31
    have h32 := (hx 32).symm.trans e32
    have h33 := (hx 33).symm.trans e33
    have h34 := (hx 34).symm.trans e34
    have h35 := (hx 35).symm.trans e35
    have h36 := (hx 36).symm.trans e36
    have h37 := (hx 37).symm.trans e37
    have h38 := (hx 38).symm.trans e38
    have h39 := (hx 39).symm.trans e39
    have h40 := (hx 40).symm.trans e40
    have h49 := (hx 49).symm.trans e49
    have h50 := (hx 50).symm.trans e50
    have h51 := (hx 51).symm.trans e51
    have h52 := (hx 52).symm.trans e52
    have h53 := (hx 53).symm.trans e53
    have h54 := (hx 54).symm.trans e54
    have h55 := (hx 55).symm.trans e55
    have h56 := (hx 56).symm.trans e56
    have h57 := (hx 57).symm.trans e57
    have h58 := (hx 58).symm.trans e58
    have h59 := (hx 59).symm.trans e59
    have h60 := (hx 60).symm.trans e60
    have h61 := (hx 61).symm.trans e61
    have h62 := (hx 62).symm.trans e62
    have h63 := (hx 63).symm.trans e63
    have h64 := (hx 64).symm.trans e64
    have h65 := (hx 65).symm.trans e65
    have h66 := (hx 66).symm.trans e66
    have h67 := (hx 67).symm.trans e67
    have h68 := (hx 68).symm.trans e68
    have h69 := (hx 69).symm.trans e69
    have h70 := (hx 70).symm.trans e70
    have h71 := (hx 71).symm.trans e71
    have h72 := (hx 72).symm.trans e72
    have h73 := (hx 73).symm.trans e73
    have h74 := (hx 74).symm.trans e74
    have h75 := (hx 75).symm.trans e75
    have h76 := (hx 76).symm.trans e76
    have h77 := (hx 77).symm.trans e77
    have h78 := (hx 78).symm.trans e78
    have h79 := (hx 79).symm.trans e79
    have h80 := (hx 80).symm.trans e80
    have h81 := (hx 81).symm.trans e81
    have h82 := (hx 82).symm.trans e82
    have h83 := (hx 83).symm.trans e83
    have h84 := (hx 84).symm.trans e84
    have h85 := (hx 85).symm.trans e85
    have h86 := (hx 86).symm.trans e86
    have h87 := (hx 87).symm.trans e87
    have h88 := (hx 88).symm.trans e88
    have h89 := (hx 89).symm.trans e89
    have h90 := (hx 90).symm.trans e90
    have h91 := (hx 91).symm.trans e91
    have h92 := (hx 92).symm.trans e92
    have h93 := (hx 93).symm.trans e93
    have h94 := (hx 94).symm.trans e94
    have h95 := (hx 95).symm.trans e95
    have h96 := (hx 96).symm.trans e96
    have h97 := (hx 97).symm.trans e97
    have h98 := (hx 98).symm.trans e98
    have h99 := (hx 99).symm.trans e99
    have h100 := (hx 100).symm.trans e100
    have h101 := (hx 101).symm.trans e101
    have h102 := (hx 102).symm.trans e102
    have h103 := (hx 103).symm.trans e103
    have h104 := (hx 104).symm.trans e104
    have h105 := (hx 105).symm.trans e105
    have h106 := (hx 106).symm.trans e106
    have h107 := (hx 107).symm.trans e107
    have h108 := (hx 108).symm.trans e108
    have h109 := (hx 109).symm.trans e109
    have h110 := (hx 110).symm.trans e110
    have h111 := (hx 111).symm.trans e111
    have h112 := (hx 112).symm.trans e112
    have h113 := (hx 113).symm.trans e113
    have h114 := (hx 114).symm.trans e114
    have h115 := (hx 115).symm.trans e115
    have h116 := (hx 116).symm.trans e116
    have h117 := (hx 117).symm.trans e117
    have h118 := (hx 118).symm.trans e118
    have ht' : t = #[x 0, x 1, x 2, x 3, x 4, x 5, x 6, x 7, x 8, x 9, x 10, x 11, x 12, x 13, x 14, x 15, x 16, x 17, x 18, x 19, x 20, x 21, x 22, x 23, x 24, x 25, x 26, x 27, x 28, x 29, x 30, x 31, x 32, x 33, x 34, x 35, x 36, x 37, x 38, x 39, x 40, x 41, x 42, x 43, x 44, x 45, x 46, x 47, x 48, x 49, x 50, x 51, x 52, x 53, x 54, x 55, x 56, x 57, x 58, x 59, x 60, x 61, x 62, x 63, x 64, x 65, x 66, x 67, x 68, x 69, x 70, x 71, x 72, x 73, x 74, x 75, x 76, x 77, x 78, x 79, x 80, x 81, x 82, x 83, x 84, x 85, x 86, x 87, x 88, x 89, x 90, x 91, x 92, x 93, x 94, x 95, x 96, x 97, x 98, x 99, x 100, x 101, x 102, x 103, x 104, x 105, x 106, x 107, x 108, x 109, x 110, x 111, x 112, x 113, x 114, x 115, x 116, x 117, x 118] := frame_lit t 119 hsz x hx
    clear hx hsz hz e17 e18 e0 e1 e2 e3 e4 e5 e6 e7 e8 e9 e10 e11 e12 e13 e14 e15 e16 e19 e20 e21 e22 e23 e24 e25 e26 e27 e28 e29 e30 e31 e32 e33 e34 e35 e36 e37 e38 e39 e40 e49 e50 e51 e52 e53 e54 e55 e56 e57 e58 e59 e60 e61 e62 e63 e64 e65 e66 e67 e68 e69 e70 e71 e72 e73 e74 e75 e76 e77 e78 e79 e80 e81 e82 e83 e84 e85 e86 e87 e88 e89 e90 e91 e92 e93 e94 e95 e96 e97 e98 e99 e100 e101 e102 e103 e104 e105 e106 e107 e108 e109 e110 e111 e112 e113 e114 e115 e116 e117 e118
    subst ht'
    (try dsimp only)
    rw [h17, h18, h0, h1, h2, h3, h4, h5, h6, h7, h8, h9, h10, h11, h12, h13, h14, h15, h16, h19, h20, h21, h22, h23, h24, h25, h26, h27, h28, h29, h30, h31, h32, h33, h34, h35, h36, h37, h38, h39, h40, h49, h50, h51, h52, h53, h54, h55, h56, h57, h58, h59, h60, h61, h62, h63, h64, h65, h66, h67, h68, h69, h70, h71, h72, h73, h74, h75, h76, h77, h78, h79, h80, h81, h82, h83, h84, h85, h86, h87, h88, h89, h90, h91, h92, h93, h94, h95, h96, h97, h98, h99, h100, h101, h102, h103, h104, h105, h106, h107, h108, h109, h110, h111, h112, h113, h114, h115, h116, h117, h118]
    clear h17 h18 h0 h1 h2 h3 h4 h5 h6 h7 h8 h9 h10 h11 h12 h13 h14 h15 h16 h19 h20 h21 h22 h23 h24 h25 h26 h27 h28 h29 h30 h31 h32 h33 h34 h35 h36 h37 h38 h39 h40 h49 h50 h51 h52 h53 h54 h55 h56 h57 h58 h59 h60 h61 h62 h63 h64 h65 h66 h67 h68 h69 h70 h71 h72 h73 h74 h75 h76 h77 h78 h79 h80 h81 h82 h83 h84 h85 h86 h87 h88 h89 h90 h91 h92 h93 h94 h95 h96 h97 h98 h99 h100 h101 h102 h103 h104 h105 h106 h107 h108 h109 h110 h111 h112 h113 h114 h115 h116 h117 h118
    rw [undef_fold]
    have hb := from_drew hS
    have hdb := hD.lt
    have hwB := hB.size
    have nx : w4.heap.size ≤ b17 ∧ b17 < w5.heap.size := nb17
    have ny : w4.heap.size ≤ b18 ∧ b18 < w5.heap.size := nb18
    have hrdl := hrd.ltR
    have ex := ok_echo hok hokX
    have ey := ok_echo hok hokY
    have hM : T7 d da dc db b17 b18 X0 Y0 a17 c17 a18 c18 w w5 := by
      have x1 := rowT_box r17 q17 rfl ex
      have x2 := rowT_box r17 q18 rfl ex
      have y1 := rowT_box r18 q17 rfl ey
      have y2 := rowT_box r18 q18 rfl ey
      refine ⟨hB.trans (hb.mono hB.size), hD.later hb, hrd.later hb, q17, q18, r17, r18, by omega, by omega, ⟨by omega, by omega⟩, hrdl.imp id fun q y e => by have := q y e; omega, ?_, ?_⟩
      · rcases x1 with e | x1
        · exact .inl e
        · rcases x2 with e | x2
          · exact .inl e
          · exact .inr fun y e => ⟨x1 y e, x2 y e⟩
      · rcases y1 with e | y1
        · exact .inl e
        · rcases y2 with e | y2
          · exact .inl e
          · exact .inr fun y e => ⟨y1 y e, y2 y e⟩
    clear hS hb hD hrd hB q17 q18 r17 r18 f17 f18 g17 g18 nb17 nb18 hF2 hG2 HM1 HM2 ex ey hrdl
    have HWi := Lib.hid (fun W => rwire_any d da dc r W hok (by omega) (by omega))
    obtain ⟨R0, R1⟩ := wireI_range d r
    have HOX := Lib.hid (okR hokX (wireI d r) R0 R1)
    have HOY := Lib.hid (okR hokY (wireI d r) R0 R1)
    generalize wireI d r = R at *
    clear hokX hokY
    go_upto_region 7 with fail
    go_cut [51] (fun s wx => s = .int .i64 R ∧ T7 d da dc db b17 b18 { X0 with R := R } { Y0 with R := R } a17 c17 a18 c18 w wx)
    case first =>
      replace hM := hM.later (Below.refl _ _).drew
      have qD := hM.hD.at
      unfold confBox at qD
      go_region_with ((go_at_call 13; refine (HWi.out _).mono ?_; rintro e wq ⟨rfl, hb⟩; replace hM := hM.later hb; clear hb qD; have qD := hM.hD.at; unfold confBox at qD; (try clear q7 f7 q8 f8 e9 f9); obtain ⟨u9, e9, f9⟩ := hM.mid R; have q7 := hM.hX.at; have f7 := hM.hX.frozen; have q8 := hM.hY.at; have f8 := hM.hY.frozen; unfold frBox at q7 q8))
      all_goals go_wp2_with fail
      all_goals go_meet
      all_goals exact ⟨rfl, hM.wire R⟩
    case rest =>
      obtain ⟨rfl, hM⟩ := hcut
      generalize ({ X0 with R := R } : Fr) = X1 at *
      generalize ({ Y0 with R := R } : Fr) = Y1 at *
      have HTx := Lib.hid (fun W (h : RowT W a17 X1.E) => rText_ok d da dc X1 a17 c17 W hok HOX.out h)
      have HTy := Lib.hid (fun W (h : RowT W a18 Y1.E) => rText_ok d da dc Y1 a18 c18 W hok HOY.out h)
      have lx : (textF X1).length ≤ 1048576 := by
        have h1 := textF_length X1
        have h2 := (ok_small hok HOX.out).2.2.2.2.2
        omega
      have ly : (textF Y1).length ≤ 1048576 := by
        have h1 := textF_length Y1
        have h2 := (ok_small hok HOY.out).2.2.2.2.2
        omega
      generalize textF X1 = tx at *
      generalize textF Y1 = ty at *
      have hD := hM.hD
      have hXb := hM.hX
      have hYb := hM.hY
      have hrx := hM.hrx
      have hry := hM.hry
      go_upto_region 8 with fail
      refine region_slots [some 57, some 58, some 59, some 60, some 61, some 62, some 63, some 19] [none, none, none, none, none, none, none, none] 119 8 rfl (by kernel_rfl) (by kernel_rfl) rfl rfl ?_
      apply step_fix
      · intro a W Zs hS hFm hz hd
        have h15 := hFm.old 15 rfl
        conv at h15 => rhs; whnf
        replace h15 := ev_get hFm.size h15
        have hq := (hD.drew1.later hS).at
        unfold confBox at hq
        refine .inl ⟨wanted_none rfl _, fun K hK => ?_⟩
        have HK := Lib.hid hK
        clear hd hFm hK
        go_simp
        exact HK.out _ _ rfl (Below.refl _ _)
      simp only [List.nil_append, List.cons_append]
      apply step_fix
      · intro a W Zs hS hFm hz hd
        have h17 := hFm.old 17 rfl
        conv at h17 => rhs; whnf
        replace h17 := ev_get hFm.size h17
        have hq := (hXb.drew1.later hS).at
        unfold frBox at hq
        refine .inl ⟨wanted_none rfl _, fun K hK => ?_⟩
        have HK := Lib.hid hK
        clear hd hFm hK
        go_simp
        exact HK.out _ _ rfl (Below.refl _ _)
      simp only [List.nil_append, List.cons_append]
      apply step_fix
      · intro a W Zs hS hFm hz hd
        have h57 := ev_get hFm.size (hd 0 57 rfl rfl)
        have h58 := ev_get hFm.size (hd 1 58 rfl rfl)
        refine .inl ⟨wanted_none rfl _, fun K hK => ?_⟩
        have HK := Lib.hid hK
        clear hd hFm hK
        go_simp
        refine (HTx.out _ (hrx.drew1.later hS)).mono ?_
        rintro e W' ⟨rfl, hb⟩
        exact HK.out _ _ rfl hb
      simp only [List.nil_append, List.cons_append]
      apply step_fix
      · intro a W Zs hS hFm hz hd
        have h15 := hFm.old 15 rfl
        conv at h15 => rhs; whnf
        replace h15 := ev_get hFm.size h15
        have hq := (hD.drew1.later hS).at
        unfold confBox at hq
        refine .inl ⟨wanted_none rfl _, fun K hK => ?_⟩
        have HK := Lib.hid hK
        clear hd hFm hK
        go_simp
        exact HK.out _ _ rfl (Below.refl _ _)
      simp only [List.nil_append, List.cons_append]
      apply step_fix
      · intro a W Zs hS hFm hz hd
        have h18 := hFm.old 18 rfl
        conv at h18 => rhs; whnf
        replace h18 := ev_get hFm.size h18
        have hq := (hYb.drew1.later hS).at
        unfold frBox at hq
        refine .inl ⟨wanted_none rfl _, fun K hK => ?_⟩
        have HK := Lib.hid hK
        clear hd hFm hK
        go_simp
        exact HK.out _ _ rfl (Below.refl _ _)
      simp only [List.nil_append, List.cons_append]
      apply step_fix
      · intro a W Zs hS hFm hz hd
        have h60 := ev_get hFm.size (hd 3 60 rfl rfl)
        have h61 := ev_get hFm.size (hd 4 61 rfl rfl)
        refine .inl ⟨wanted_none rfl _, fun K hK => ?_⟩
        have HK := Lib.hid hK
        clear hd hFm hK
        go_simp
        refine (HTy.out _ (hry.drew1.later hS)).mono ?_
        rintro e W' ⟨rfl, hb⟩
        exact HK.out _ _ rfl hb
      simp only [List.nil_append, List.cons_append]
      apply step_blk
      · intro a W Zs hS hFm hz hd
        have h59 := ev_get hFm.size (hd 2 59 rfl rfl)
        have h62 := ev_get hFm.size (hd 5 62 rfl rfl)
        refine .inl ⟨wanted_none rfl _, fun K hK => ?_⟩
        have HK := Lib.hid hK
        clear hd hFm hK
        go_simp
        exact HK.out _ _ ⟨_, rfl, Blk.new _ _ _, .inr (.inl ⟨Nat.le_refl _, by simp⟩)⟩ (alloc_below _ _)
      simp only [List.nil_append, List.cons_append]
      apply step_blk
      · intro a W Zs hS hFm hz hd
        obtain ⟨b63, e63, q63, f63⟩ := hd 6 63 rfl rfl
        have h63 := ev_get hFm.size e63
        refine .inl ⟨wanted_none rfl _, fun K hK => ?_⟩
        have HK := Lib.hid hK
        clear hd hFm hK
        go_simp
        exact HK.out _ _ ⟨b63, rfl, q63, f63.imp id (foot_dep 6 rfl rfl rfl _)⟩ (Below.refl _ _)
      simp only [List.nil_append, List.cons_append]
      intro a w7 Zs hS hFm hz hd
      obtain ⟨b19, e19, q19, f19⟩ := hd 7 19 (by decide) rfl
      have e0 := hFm.old 0 rfl
      conv at e0 => rhs; whnf
      have e1 := hFm.old 1 rfl
      conv at e1 => rhs; whnf
      have e2 := hFm.old 2 rfl
      conv at e2 => rhs; whnf
      have e3 := hFm.old 3 rfl
      conv at e3 => rhs; whnf
      have e4 := hFm.old 4 rfl
      conv at e4 => rhs; whnf
      have e5 := hFm.old 5 rfl
      conv at e5 => rhs; whnf
      have e6 := hFm.old 6 rfl
      conv at e6 => rhs; whnf
      have e7 := hFm.old 7 rfl
      conv at e7 => rhs; whnf
      have e8 := hFm.old 8 rfl
      conv at e8 => rhs; whnf
      have e9 := hFm.old 9 rfl
      conv at e9 => rhs; whnf
      have e10 := hFm.old 10 rfl
      conv at e10 => rhs; whnf
      have e11 := hFm.old 11 rfl
      conv at e11 => rhs; whnf
      have e12 := hFm.old 12 rfl
      conv at e12 => rhs; whnf
      have e13 := hFm.old 13 rfl
      conv at e13 => rhs; whnf
      have e14 := hFm.old 14 rfl
      conv at e14 => rhs; whnf
      have e15 := hFm.old 15 rfl
      conv at e15 => rhs; whnf
      have e16 := hFm.old 16 rfl
      conv at e16 => rhs; whnf
      have e17 := hFm.old 17 rfl
      conv at e17 => rhs; whnf
      have e18 := hFm.old 18 rfl
      conv at e18 => rhs; whnf
      have e20 := hFm.old 20 rfl
      conv at e20 => rhs; whnf
      have e21 := hFm.old 21 rfl
      conv at e21 => rhs; whnf
      have e22 := hFm.old 22 rfl
      conv at e22 => rhs; whnf
      have e23 := hFm.old 23 rfl
      conv at e23 => rhs; whnf
      have e24 := hFm.old 24 rfl
      conv at e24 => rhs; whnf
      have e25 := hFm.old 25 rfl
      conv at e25 => rhs; whnf
      have e26 := hFm.old 26 rfl
      conv at e26 => rhs; whnf
      have e27 := hFm.old 27 rfl
      conv at e27 => rhs; whnf
      have e28 := hFm.old 28 rfl
      conv at e28 => rhs; whnf
      have e29 := hFm.old 29 rfl
      conv at e29 => rhs; whnf
      have e30 := hFm.old 30 rfl
      conv at e30 => rhs; whnf
      have e31 := hFm.old 31 rfl
      conv at e31 => rhs; whnf
      have e32 := hFm.old 32 rfl
      conv at e32 => rhs; whnf
      have e33 := hFm.old 33 rfl
      conv at e33 => rhs; whnf
      have e34 := hFm.old 34 rfl
      conv at e34 => rhs; whnf
      have e35 := hFm.old 35 rfl
      conv at e35 => rhs; whnf
      have e36 := hFm.old 36 rfl
      conv at e36 => rhs; whnf
      have e37 := hFm.old 37 rfl
      conv at e37 => rhs; whnf
      have e38 := hFm.old 38 rfl
      conv at e38 => rhs; whnf
      have e39 := hFm.old 39 rfl
      conv at e39 => rhs; whnf
      have e40 := hFm.old 40 rfl
      conv at e40 => rhs; whnf
      have e41 := hFm.old 41 rfl
      conv at e41 => rhs; whnf
      have e42 := hFm.old 42 rfl
      conv at e42 => rhs; whnf
      have e43 := hFm.old 43 rfl
      conv at e43 => rhs; whnf
      have e44 := hFm.old 44 rfl
      conv at e44 => rhs; whnf
      have e45 := hFm.old 45 rfl
      conv at e45 => rhs; whnf
      have e46 := hFm.old 46 rfl
      conv at e46 => rhs; whnf
      have e47 := hFm.old 47 rfl
      conv at e47 => rhs; whnf
      have e48 := hFm.old 48 rfl
      conv at e48 => rhs; whnf
      have e49 := hFm.old 49 rfl
      conv at e49 => rhs; whnf
      have e50 := hFm.old 50 rfl
      conv at e50 => rhs; whnf
      have e51 := hFm.old 51 rfl
      conv at e51 => rhs; whnf
      have e52 := hFm.old 52 rfl
      conv at e52 => rhs; whnf
      have e53 := hFm.old 53 rfl
      conv at e53 => rhs; whnf
      have e54 := hFm.old 54 rfl
      conv at e54 => rhs; whnf
      have e55 := hFm.old 55 rfl
      conv at e55 => rhs; whnf
      have e56 := hFm.old 56 rfl
      conv at e56 => rhs; whnf
      have e64 := hFm.old 64 rfl
      conv at e64 => rhs; whnf
      have e65 := hFm.old 65 rfl
      conv at e65 => rhs; whnf
      have e66 := hFm.old 66 rfl
      conv at e66 => rhs; whnf
      have e67 := hFm.old 67 rfl
      conv at e67 => rhs; whnf
      have e68 := hFm.old 68 rfl
      conv at e68 => rhs; whnf
      have e69 := hFm.old 69 rfl
      conv at e69 => rhs; whnf
      have e70 := hFm.old 70 rfl
      conv at e70 => rhs; whnf
      have e71 := hFm.old 71 rfl
      conv at e71 => rhs; whnf
      have e72 := hFm.old 72 rfl
      conv at e72 => rhs; whnf
      have e73 := hFm.old 73 rfl
      conv at e73 => rhs; whnf
      have e74 := hFm.old 74 rfl
      conv at e74 => rhs; whnf
      have e75 := hFm.old 75 rfl
      conv at e75 => rhs; whnf
      have e76 := hFm.old 76 rfl
      conv at e76 => rhs; whnf
      have e77 := hFm.old 77 rfl
      conv at e77 => rhs; whnf
      have e78 := hFm.old 78 rfl
      conv at e78 => rhs; whnf
      have e79 := hFm.old 79 rfl
      conv at e79 => rhs; whnf
      have e80 := hFm.old 80 rfl
      conv at e80 => rhs; whnf
      have e81 := hFm.old 81 rfl
      conv at e81 => rhs; whnf
      have e82 := hFm.old 82 rfl
      conv at e82 => rhs; whnf
      have e83 := hFm.old 83 rfl
      conv at e83 => rhs; whnf
      have e84 := hFm.old 84 rfl
      conv at e84 => rhs; whnf
      have e85 := hFm.old 85 rfl
      conv at e85 => rhs; whnf
      have e86 := hFm.old 86 rfl
      conv at e86 => rhs; whnf
      have e87 := hFm.old 87 rfl
      conv at e87 => rhs; whnf
      have e88 := hFm.old 88 rfl
      conv at e88 => rhs; whnf
      have e89 := hFm.old 89 rfl
      conv at e89 => rhs; whnf
      have e90 := hFm.old 90 rfl
      conv at e90 => rhs; whnf
      have e91 := hFm.old 91 rfl
      conv at e91 => rhs; whnf
      have e92 := hFm.old 92 rfl
      conv at e92 => rhs; whnf
      have e93 := hFm.old 93 rfl
      conv at e93 => rhs; whnf
      have e94 := hFm.old 94 rfl
      conv at e94 => rhs; whnf
      have e95 := hFm.old 95 rfl
      conv at e95 => rhs; whnf
      have e96 := hFm.old 96 rfl
      conv at e96 => rhs; whnf
      have e97 := hFm.old 97 rfl
      conv at e97 => rhs; whnf
      have e98 := hFm.old 98 rfl
      conv at e98 => rhs; whnf
      have e99 := hFm.old 99 rfl
      conv at e99 => rhs; whnf
      have e100 := hFm.old 100 rfl
      conv at e100 => rhs; whnf
      have e101 := hFm.old 101 rfl
      conv at e101 => rhs; whnf
      have e102 := hFm.old 102 rfl
      conv at e102 => rhs; whnf
      have e103 := hFm.old 103 rfl
      conv at e103 => rhs; whnf
      have e104 := hFm.old 104 rfl
      conv at e104 => rhs; whnf
      have e105 := hFm.old 105 rfl
      conv at e105 => rhs; whnf
      have e106 := hFm.old 106 rfl
      conv at e106 => rhs; whnf
      have e107 := hFm.old 107 rfl
      conv at e107 => rhs; whnf
      have e108 := hFm.old 108 rfl
      conv at e108 => rhs; whnf
      have e109 := hFm.old 109 rfl
      conv at e109 => rhs; whnf
      have e110 := hFm.old 110 rfl
      conv at e110 => rhs; whnf
      have e111 := hFm.old 111 rfl
      conv at e111 => rhs; whnf
      have e112 := hFm.old 112 rfl
      conv at e112 => rhs; whnf
      have e113 := hFm.old 113 rfl
      conv at e113 => rhs; whnf
      have e114 := hFm.old 114 rfl
      conv at e114 => rhs; whnf
      have e115 := hFm.old 115 rfl
      conv at e115 => rhs; whnf
      have e116 := hFm.old 116 rfl
      conv at e116 => rhs; whnf
      have e117 := hFm.old 117 rfl
      conv at e117 => rhs; whnf
      have e118 := hFm.old 118 rfl
      conv at e118 => rhs; whnf
      have hsz := hFm.size
      have hdf := hFm.defers
      clear hd hFm
      obtain ⟨t, df⟩ := a
      simp only at hsz hdf
      subst hdf
      obtain ⟨x, hx⟩ : ∃ x : Nat → Value, ∀ i, t.getD i undef = x i := ⟨fun i => t.getD i undef, fun _ => rfl⟩
      have h19 := (hx 19).symm.trans e19
      have h0 := (hx 0).symm.trans e0
      have h1 := (hx 1).symm.trans e1
      have h2 := (hx 2).symm.trans e2
      have h3 := (hx 3).symm.trans e3
      have h4 := (hx 4).symm.trans e4
      have h5 := (hx 5).symm.trans e5
      have h6 := (hx 6).symm.trans e6
      have h7 := (hx 7).symm.trans e7
      have h8 := (hx 8).symm.trans e8
      have h9 := (hx 9).symm.trans e9
      have h10 := (hx 10).symm.trans e10
      have h11 := (hx 11).symm.trans e11
      have h12 := (hx 12).symm.trans e12
      have h13 := (hx 13).symm.trans e13
      have h14 := (hx 14).symm.trans e14
      have h15 := (hx 15).symm.trans e15
      have h16 := (hx 16).symm.trans e16
      have h17 := (hx 17).symm.trans e17
      have h18 := (hx 18).symm.trans e18
      have h20 := (hx 20).symm.trans e20
      have h21 := (hx 21).symm.trans e21
      have h22 := (hx 22).symm.trans e22
      have h23 := (hx 23).symm.trans e23
      have h24 := (hx 24).symm.trans e24
      have h25 := (hx 25).symm.trans e25
      have h26 := (hx 26).symm.trans e26
      have h27 := (hx 27).symm.trans e27
      have h28 := (hx 28).symm.trans e28
      have h29 := (hx 29).symm.trans e29
      have h30 := (hx 30).symm.trans e30
      have h31 := (hx 31).symm.trans e31
      have h32 := (hx 32).symm.trans e32
      have h33 := (hx 33).symm.trans e33
      have h34 := (hx 34).symm.trans e34
      have h35 := (hx 35).symm.trans e35
      have h36 := (hx 36).symm.trans e36
      have h37 := (hx 37).symm.trans e37
      have h38 := (hx 38).symm.trans e38
      have h39 := (hx 39).symm.trans e39
      have h40 := (hx 40).symm.trans e40
      have h41 := (hx 41).symm.trans e41
      have h42 := (hx 42).symm.trans e42
      have h43 := (hx 43).symm.trans e43
      have h44 := (hx 44).symm.trans e44
      have h45 := (hx 45).symm.trans e45
      have h46 := (hx 46).symm.trans e46
      have h47 := (hx 47).symm.trans e47
      have h48 := (hx 48).symm.trans e48
      have h49 := (hx 49).symm.trans e49
      have h50 := (hx 50).symm.trans e50
      have h51 := (hx 51).symm.trans e51
      have h52 := (hx 52).symm.trans e52
      have h53 := (hx 53).symm.trans e53
      have h54 := (hx 54).symm.trans e54
      have h55 := (hx 55).symm.trans e55
      have h56 := (hx 56).symm.trans e56
      have h64 := (hx 64).symm.trans e64
      have h65 := (hx 65).symm.trans e65
      have h66 := (hx 66).symm.trans e66
      have h67 := (hx 67).symm.trans e67
      have h68 := (hx 68).symm.trans e68
      have h69 := (hx 69).symm.trans e69
      have h70 := (hx 70).symm.trans e70
      have h71 := (hx 71).symm.trans e71
      have h72 := (hx 72).symm.trans e72
      have h73 := (hx 73).symm.trans e73
      have h74 := (hx 74).symm.trans e74
      have h75 := (hx 75).symm.trans e75
      have h76 := (hx 76).symm.trans e76
      have h77 := (hx 77).symm.trans e77
      have h78 := (hx 78).symm.trans e78
      have h79 := (hx 79).symm.trans e79
      have h80 := (hx 80).symm.trans e80
      have h81 := (hx 81).symm.trans e81
      have h82 := (hx 82).symm.trans e82
      have h83 := (hx 83).symm.trans e83
      have h84 := (hx 84).symm.trans e84
      have h85 := (hx 85).symm.trans e85
      have h86 := (hx 86).symm.trans e86
      have h87 := (hx 87).symm.trans e87
      have h88 := (hx 88).symm.trans e88
      have h89 := (hx 89).symm.trans e89
      have h90 := (hx 90).symm.trans e90
      have h91 := (hx 91).symm.trans e91
      have h92 := (hx 92).symm.trans e92
      have h93 := (hx 93).symm.trans e93
      have h94 := (hx 94).symm.trans e94
      have h95 := (hx 95).symm.trans e95
      have h96 := (hx 96).symm.trans e96
      have h97 := (hx 97).symm.trans e97
      have h98 := (hx 98).symm.trans e98
      have h99 := (hx 99).symm.trans e99
      have h100 := (hx 100).symm.trans e100
      have h101 := (hx 101).symm.trans e101
      have h102 := (hx 102).symm.trans e102
      have h103 := (hx 103).symm.trans e103
      have h104 := (hx 104).symm.trans e104
      have h105 := (hx 105).symm.trans e105
      have h106 := (hx 106).symm.trans e106
      have h107 := (hx 107).symm.trans e107
      have h108 := (hx 108).symm.trans e108
      have h109 := (hx 109).symm.trans e109
      have h110 := (hx 110).symm.trans e110
      have h111 := (hx 111).symm.trans e111
      have h112 := (hx 112).symm.trans e112
      have h113 := (hx 113).symm.trans e113
      have h114 := (hx 114).symm.trans e114
      have h115 := (hx 115).symm.trans e115
      have h116 := (hx 116).symm.trans e116
      have h117 := (hx 117).symm.trans e117
      have h118 := (hx 118).symm.trans e118
      have ht' : t = #[x 0, x 1, x 2, x 3, x 4, x 5, x 6, x 7, x 8, x 9, x 10, x 11, x 12, x 13, x 14, x 15, x 16, x 17, x 18, x 19, x 20, x 21, x 22, x 23, x 24, x 25, x 26, x 27, x 28, x 29, x 30, x 31, x 32, x 33, x 34, x 35, x 36, x 37, x 38, x 39, x 40, x 41, x 42, x 43, x 44, x 45, x 46, x 47, x 48, x 49, x 50, x 51, x 52, x 53, x 54, x 55, x 56, x 57, x 58, x 59, x 60, x 61, x 62, x 63, x 64, x 65, x 66, x 67, x 68, x 69, x 70, x 71, x 72, x 73, x 74, x 75, x 76, x 77, x 78, x 79, x 80, x 81, x 82, x 83, x 84, x 85, x 86, x 87, x 88, x 89, x 90, x 91, x 92, x 93, x 94, x 95, x 96, x 97, x 98, x 99, x 100, x 101, x 102, x 103, x 104, x 105, x 106, x 107, x 108, x 109, x 110, x 111, x 112, x 113, x 114, x 115, x 116, x 117, x 118] := frame_lit t 119 hsz x hx
      clear hx hsz hz e19 e0 e1 e2 e3 e4 e5 e6 e7 e8 e9 e10 e11 e12 e13 e14 e15 e16 e17 e18 e20 e21 e22 e23 e24 e25 e26 e27 e28 e29 e30 e31 e32 e33 e34 e35 e36 e37 e38 e39 e40 e41 e42 e43 e44 e45 e46 e47 e48 e49 e50 e51 e52 e53 e54 e55 e56 e64 e65 e66 e67 e68 e69 e70 e71 e72 e73 e74 e75 e76 e77 e78 e79 e80 e81 e82 e83 e84 e85 e86 e87 e88 e89 e90 e91 e92 e93 e94 e95 e96 e97 e98 e99 e100 e101 e102 e103 e104 e105 e106 e107 e108 e109 e110 e111 e112 e113 e114 e115 e116 e117 e118
      subst ht'
      (try dsimp only)
      rw [h19, h0, h1, h2, h3, h4, h5, h6, h7, h8, h9, h10, h11, h12, h13, h14, h15, h16, h17, h18, h20, h21, h22, h23, h24, h25, h26, h27, h28, h29, h30, h31, h32, h33, h34, h35, h36, h37, h38, h39, h40, h41, h42, h43, h44, h45, h46, h47, h48, h49, h50, h51, h52, h53, h54, h55, h56, h64, h65, h66, h67, h68, h69, h70, h71, h72, h73, h74, h75, h76, h77, h78, h79, h80, h81, h82, h83, h84, h85, h86, h87, h88, h89, h90, h91, h92, h93, h94, h95, h96, h97, h98, h99, h100, h101, h102, h103, h104, h105, h106, h107, h108, h109, h110, h111, h112, h113, h114, h115, h116, h117, h118]
      clear h19 h0 h1 h2 h3 h4 h5 h6 h7 h8 h9 h10 h11 h12 h13 h14 h15 h16 h17 h18 h20 h21 h22 h23 h24 h25 h26 h27 h28 h29 h30 h31 h32 h33 h34 h35 h36 h37 h38 h39 h40 h41 h42 h43 h44 h45 h46 h47 h48 h49 h50 h51 h52 h53 h54 h55 h56 h64 h65 h66 h67 h68 h69 h70 h71 h72 h73 h74 h75 h76 h77 h78 h79 h80 h81 h82 h83 h84 h85 h86 h87 h88 h89 h90 h91 h92 h93 h94 h95 h96 h97 h98 h99 h100 h101 h102 h103 h104 h105 h106 h107 h108 h109 h110 h111 h112 h113 h114 h115 h116 h117 h118
      rw [undef_fold]
      have hb := from_drew hS
      replace hM := hM.later hb
      clear hS hb hD hXb hYb hrx hry HTx HTy
      go_upto_region 10 with fail
      have hdl := hM.hD.lt
      have hxl := hM.hX.lt
      have hll := q19.lt
      have hws := hM.hB.size
      have hrl := hM.hrd.ltR
      have hb := alloc_below w7 (.cells #[.string ⟨#[]⟩, .string ⟨#[]⟩, .string ⟨#[]⟩, .int .i64 0, .string ⟨#[]⟩, .string ⟨#[]⟩, .string ⟨#[]⟩, .int .i64 0] 46)
      have hT : TuM d da dc db b17 b19 w7.heap.size X1 a17 c17 (#[.string ⟨tx.toArray⟩, .string ⟨ty.toArray⟩, .string ⟨#[]⟩, .string ⟨#[48, 49, 35]⟩]) [] [] 0 0 w (w7.alloc (.cells #[.string ⟨#[]⟩, .string ⟨#[]⟩, .string ⟨#[]⟩, .int .i64 0, .string ⟨#[]⟩, .string ⟨#[]⟩, .string ⟨#[]⟩, .int .i64 0] 46)) :=
        ⟨hM.hB.trans (hb.mono hM.hB.size), hM.hD.later hb, hM.hrd.later hb, hM.hX.later hb, q19.later hb, Blk.new w7 _ _, hws, ⟨by omega, by omega, by omega⟩, hrl.imp id fun q y e => by have := q y e; omega⟩
      clear hM q19 f19 hb hdl hxl hll hws hrl
      generalize w7.alloc (.cells #[.string ⟨#[]⟩, .string ⟨#[]⟩, .string ⟨#[]⟩, .int .i64 0, .string ⟨#[]⟩, .string ⟨#[]⟩, .string ⟨#[]⟩, .int .i64 0] 46) = w8 at *
      generalize w7.heap.size = ab at *
      have HPk := Lib.hid (fun (u0 u1 : List UInt8) (h0 : u0.length ≤ 1048576) (h1 : u1.length ≤ 1048576) (W : World) (hb : Bnds W) (hr : Row W da d.P) => show Calls Tryd.prog 21 #[.agg #[.int .i64 d.N, .int .i64 d.Pi, .int .i64 d.E, .int .i64 d.G, .int .i64 d.F, .slice da d.P.length dc], .int .i64 r, .int .i64 X1.S, .agg #[.string ⟨#[]⟩, .string ⟨#[]⟩, .string ⟨u0.toArray⟩, .int .i64 2], .agg #[.string ⟨#[]⟩, .string ⟨#[]⟩, .string ⟨u1.toArray⟩, .int .i64 3]] W (RightRet (takeA d r X1.S ⟨[], [], u0, 2⟩ ⟨[], [], u1, 3⟩) W) from
        aPick_any d da dc r X1.S ⟨[], [], u0, 2⟩ ⟨[], [], u1, 3⟩ W hb hok hr (by omega) (by omega) h0 h1 (by show ([] : List UInt8).length ≤ _; decide) (by show ([] : List UInt8).length ≤ _; decide))
      have HPl := Lib.hid (fun (u0 u1 : List UInt8) (h0 : u0.length ≤ 1048576) (h1 : u1.length ≤ 1048576) (W : World) (hb : Bnds W) (hr : Row W da d.P) => show Calls Tryd.prog 21 #[.agg #[.int .i64 d.N, .int .i64 d.Pi, .int .i64 d.E, .int .i64 d.G, .int .i64 d.F, .slice da d.P.length dc], .int .i64 r, .int .i64 X1.S, .agg #[.string ⟨#[]⟩, .string ⟨#[]⟩, .string ⟨u1.toArray⟩, .int .i64 3], .agg #[.string ⟨#[]⟩, .string ⟨#[]⟩, .string ⟨u0.toArray⟩, .int .i64 2]] W (RightRet (takeA d r X1.S ⟨[], [], u0, 2⟩ ⟨[], [], u1, 3⟩) W) from by
        rw [take_swap d r X1.S ⟨[], [], u0, 2⟩ ⟨[], [], u1, 3⟩ (by show (2 : Int) ≤ 2; omega) (by show (2 : Int) ≤ 3; omega)]
        exact aPick_any d da dc r X1.S ⟨[], [], u1, 3⟩ ⟨[], [], u0, 2⟩ W hb hok hr (by omega) (by omega) h1 h0 (by show ([] : List UInt8).length ≤ _; decide) (by show ([] : List UInt8).length ≤ _; decide))
      have HST := Lib.hid (show TuAt d da dc db b17 b19 ab X1 a17 c17 (#[.string ⟨tx.toArray⟩, .string ⟨ty.toArray⟩, .string ⟨#[]⟩, .string ⟨#[48, 49, 35]⟩]) w (.int .i64 0) w8 from .inl ⟨rfl, hT⟩)
      clear hT
      go_wp2
      go_loopw [21] (fun i W => TuAt d da dc db b17 b19 ab X1 a17 c17 (#[.string ⟨tx.toArray⟩, .string ⟨ty.toArray⟩, .string ⟨#[]⟩, .string ⟨#[48, 49, 35]⟩]) w i W) (fun i _ => 2 - (intOf i).toNat)
      case atStart => exact HST.out
      case round =>
        clear HST
        rcases hrel with ⟨rfl, hT⟩ | ⟨u0, h0, rfl, hT⟩ | ⟨u0, u1, h0, h1, rfl, hT⟩
        · skip
          have fA := hT.hA.frozen
          have qA := hT.hA.at
          unfold arr2 at qA
          by_cases hI : 0 < ps.length
          · have dI : decide ((0 : Int) < (ps.length : Int)) = true := decide_eq_true (by omega)
            have dN : decide (0 < ps.length) = true := decide_eq_true hI
            obtain ⟨pb, po, rfl, hpb, hpc, klo, khi⟩ := (hps.later hT.hB).get 0 hI
            have g1 : (0 : Int) < (ps.length : Int) := by omega
            generalize ps[0] = kv at *
            (try simp only [Nat.add_zero] at hpc)
            go_wp2_with fail
            refine (within10_any kv 4 _ (by omega) (by omega)).mono ?_
            rintro e wl ⟨rfl, rfl⟩
            have q0 := Int.emod_nonneg kv (show (4 : Int) ≠ 0 by omega)
            have q1 := Int.emod_lt_of_pos kv (show (0 : Int) < 4 by omega)
            generalize kv % 4 = q at *
            obtain ⟨n, hn⟩ : ∃ n : Nat, q = n := ⟨q.toNat, by omega⟩
            subst hn
            obtain ⟨u, hu, hcu⟩ := ls_get n (by omega) hT.hL lx ly
            have HREL := Lib.hid (show TuAt d da dc db b17 b19 ab X1 a17 c17 (#[.string ⟨tx.toArray⟩, .string ⟨ty.toArray⟩, .string ⟨#[]⟩, .string ⟨#[48, 49, 35]⟩]) w (.int .i64 1) _ from .inr (.inl ⟨u, hu, rfl, hT.put 0 1 2 3 _ _ _ _ (arr_put0 hT.hA u 2)⟩))
            clear hT
            go_wp2
            go_roundw
            case rel => exact HREL.out
            case measure => simp [intOf]
          · have dI : decide ((0 : Int) < (ps.length : Int)) = false := decide_eq_false (by omega)
            have dN : decide (0 < ps.length) = false := decide_eq_false hI
            go_wp2_with fail
            refine (within10_any 0 4 _ (by omega) (by omega)).mono ?_
            rintro e wl ⟨rfl, rfl⟩
            have q0 := Int.emod_nonneg (0 : Int) (show (4 : Int) ≠ 0 by omega)
            have q1 := Int.emod_lt_of_pos (0 : Int) (show (0 : Int) < 4 by omega)
            generalize (0 : Int) % 4 = q at *
            obtain ⟨n, hn⟩ : ∃ n : Nat, q = n := ⟨q.toNat, by omega⟩
            subst hn
            obtain ⟨u, hu, hcu⟩ := ls_get n (by omega) hT.hL lx ly
            have HREL := Lib.hid (show TuAt d da dc db b17 b19 ab X1 a17 c17 (#[.string ⟨tx.toArray⟩, .string ⟨ty.toArray⟩, .string ⟨#[]⟩, .string ⟨#[48, 49, 35]⟩]) w (.int .i64 1) _ from .inr (.inl ⟨u, hu, rfl, hT.put 0 1 2 3 _ _ _ _ (arr_put0 hT.hA u 2)⟩))
            clear hT
            go_wp2
            go_roundw
            case rel => exact HREL.out
            case measure => simp [intOf]
        · skip
          have fA := hT.hA.frozen
          have qA := hT.hA.at
          unfold arr2 at qA
          by_cases hI : 1 < ps.length
          · have dI : decide ((1 : Int) < (ps.length : Int)) = true := decide_eq_true (by omega)
            have dN : decide (1 < ps.length) = true := decide_eq_true hI
            obtain ⟨pb, po, rfl, hpb, hpc, klo, khi⟩ := (hps.later hT.hB).get 1 hI
            have g1 : (1 : Int) < (ps.length : Int) := by omega
            generalize ps[1] = kv at *
            (try simp only [Nat.add_zero] at hpc)
            go_wp2_with fail
            refine (within10_any kv 4 _ (by omega) (by omega)).mono ?_
            rintro e wl ⟨rfl, rfl⟩
            have q0 := Int.emod_nonneg kv (show (4 : Int) ≠ 0 by omega)
            have q1 := Int.emod_lt_of_pos kv (show (0 : Int) < 4 by omega)
            generalize kv % 4 = q at *
            obtain ⟨n, hn⟩ : ∃ n : Nat, q = n := ⟨q.toNat, by omega⟩
            subst hn
            obtain ⟨u, hu, hcu⟩ := ls_get n (by omega) hT.hL lx ly
            have HREL := Lib.hid (show TuAt d da dc db b17 b19 ab X1 a17 c17 (#[.string ⟨tx.toArray⟩, .string ⟨ty.toArray⟩, .string ⟨#[]⟩, .string ⟨#[48, 49, 35]⟩]) w (.int .i64 2) _ from .inr (.inr ⟨u0, u, h0, hu, rfl, hT.put 4 5 6 7 _ _ _ _ (arr_put1 hT.hA u 3)⟩))
            clear hT
            go_wp2
            go_roundw
            case rel => exact HREL.out
            case measure => simp [intOf]
          · have dI : decide ((1 : Int) < (ps.length : Int)) = false := decide_eq_false (by omega)
            have dN : decide (1 < ps.length) = false := decide_eq_false hI
            go_wp2_with fail
            refine (within10_any 1 4 _ (by omega) (by omega)).mono ?_
            rintro e wl ⟨rfl, rfl⟩
            have q0 := Int.emod_nonneg (1 : Int) (show (4 : Int) ≠ 0 by omega)
            have q1 := Int.emod_lt_of_pos (1 : Int) (show (0 : Int) < 4 by omega)
            generalize (1 : Int) % 4 = q at *
            obtain ⟨n, hn⟩ : ∃ n : Nat, q = n := ⟨q.toNat, by omega⟩
            subst hn
            obtain ⟨u, hu, hcu⟩ := ls_get n (by omega) hT.hL lx ly
            have HREL := Lib.hid (show TuAt d da dc db b17 b19 ab X1 a17 c17 (#[.string ⟨tx.toArray⟩, .string ⟨ty.toArray⟩, .string ⟨#[]⟩, .string ⟨#[48, 49, 35]⟩]) w (.int .i64 2) _ from .inr (.inr ⟨u0, u, h0, hu, rfl, hT.put 4 5 6 7 _ _ _ _ (arr_put1 hT.hA u 3)⟩))
            clear hT
            go_wp2
            go_roundw
            case rel => exact HREL.out
            case measure => simp [intOf]
        · have HPa := Lib.hid (HPk.out u0 u1 h0 h1)
          have HPb := Lib.hid (HPl.out u0 u1 h0 h1)
          clear HPk HPl
          obtain ⟨pf, pb, hp⟩ : ∃ pf pb, takeA d r X1.S ⟨[], [], u0, 2⟩ ⟨[], [], u1, 3⟩ = (pf, pb) := ⟨_, _, rfl⟩
          rw [hp] at HPa HPb
          clear hp
          have qD := hT.hD.at
          unfold confBox at qD
          have qX := hT.hX.at
          unfold frBox at qX
          have qA := hT.hA.at
          unfold arr2 at qA
          go_wp2_with fail
          refine (HPa.out _ (hbd.later hT.hB) hT.hrd).mono ?_
          rintro e w9 ⟨pa1, pc1, rfl, hr1, -, hb⟩
          have hB1 := hT.hB.trans (hb.mono hT.hB.size)
          have hD1 := hT.hD.later hb
          have hrd1 := hT.hrd.later hb
          have hX1 := hT.hX.later hb
          have hA1 := hT.hA.later hb
          clear hb qD qX qA hT
          go_upto_region 18 with fail
          have hb := alloc_below w9 (.cells #[.int .i64 pf.K, .int .i64 pf.R, .int .i64 pf.S, .int .i64 pf.P.K, .int .i64 pf.P.V, .slice pa1 pf.E.length pc1] 29)
          have hE1 : Blk (w9.alloc (.cells #[.int .i64 pf.K, .int .i64 pf.R, .int .i64 pf.S, .int .i64 pf.P.K, .int .i64 pf.P.V, .slice pa1 pf.E.length pc1] 29)) w9.heap.size 29 (frBox pf pa1 pc1) := Blk.new w9 _ _
          replace hB1 := hB1.trans (hb.mono hB1.size)
          replace hD1 := hD1.later hb
          replace hrd1 := hrd1.later hb
          replace hX1 := hX1.later hb
          replace hA1 := hA1.later hb
          replace hr1 := hr1.later hb
          clear hb
          generalize w9.alloc (.cells #[.int .i64 pf.K, .int .i64 pf.R, .int .i64 pf.S, .int .i64 pf.P.K, .int .i64 pf.P.V, .slice pa1 pf.E.length pc1] 29) = w10 at *
          generalize w9.heap.size = eb at *
          have qD := hD1.at
          unfold confBox at qD
          have qX := hX1.at
          unfold frBox at qX
          have qA := hA1.at
          unfold arr2 at qA
          go_wp2_with fail
          refine (HPb.out _ (hbd.later hB1) hrd1).mono ?_
          rintro e w11 ⟨pa2, pc2, rfl, hr2, -, hb⟩
          replace hB1 := hB1.trans (hb.mono hB1.size)
          replace hE1 := hE1.later hb
          replace hr1 := hr1.later hb
          clear hb qD qX qA hD1 hrd1 hX1 hA1
          go_upto_region 19 with fail
          have hb := alloc_below w11 (.cells #[.int .i64 pf.K, .int .i64 pf.R, .int .i64 pf.S, .int .i64 pf.P.K, .int .i64 pf.P.V, .slice pa2 pf.E.length pc2] 29)
          have hE2 : Blk (w11.alloc (.cells #[.int .i64 pf.K, .int .i64 pf.R, .int .i64 pf.S, .int .i64 pf.P.K, .int .i64 pf.P.V, .slice pa2 pf.E.length pc2] 29)) w11.heap.size 29 (frBox pf pa2 pc2) := Blk.new w11 _ _
          replace hB1 := hB1.trans (hb.mono hB1.size)
          replace hE1 := hE1.later hb
          replace hr1 := hr1.later hb
          replace hr2 := hr2.later hb
          clear hb
          generalize w11.alloc (.cells #[.int .i64 pf.K, .int .i64 pf.R, .int .i64 pf.S, .int .i64 pf.P.K, .int .i64 pf.P.V, .slice pa2 pf.E.length pc2] 29) = w12 at *
          generalize w11.heap.size = eb2 at *
          have qE1 := hE1.at
          unfold frBox at qE1
          have qE2 := hE2.at
          unfold frBox at qE2
          have hbb : (pb == pb) = true := by simp
          go_wp2_with fail
          refine (rSame5_any pf pf pa1 pa2 pc1 pc2 _ hr1 hr2).mono ?_
          rintro e w13 ⟨rfl, hb⟩
          have hB9 := hB1.trans (hb.mono hB1.size)
          go_wp2
          go_ret
          exact ⟨by simp, hB9⟩

end Go.Proofs.YthhmedlefahccabDoor
namespace Go.Proofs.YthhmedlefahccabDoor
open Go.ChangeShapes Go.WideShapes Go.ChangeAt Go.RowKit Plait
set_option maxRecDepth 100000
open Go.ChangeMaps (open_string shut_string)
set_option linter.unusedVariables false

set_option maxRecDepth 100000 in
theorem arbTurned_lifted (os : Os) (started : os.Started) (H : Type) (enc : TypeId × Value → H) :
    ReturnsInHanded {} Tryd.checked os 8 .any (fun w args => (Rows.arbTurnedSpec.pre enc Tryd.prog Tryd.f8 [] false w args ∧ laidMetH Tryd.prog laidV w) ∧ sizedMet enc Tryd.prog Tryd.f8 (OpenSpec.ofChange Rows.arbTurnedSpec) false w args)
      (Rows.arbTurnedSpec.post enc Tryd.prog Tryd.f8 false true false false) := by
  refine returnsInHanded_of_change_and (C := Tryd.checked) (X := fun w _ => laidMetH Tryd.prog laidV w) (fun _ _ _ hh h => h.of_heap hh) own started (by kernel_rfl) Tryd.func8
    (ChangeSpec.witness_shaped (enc := enc) (C := Tryd.checked) (os := os) (X := fun w _ => laidMetH Tryd.prog laidV w) false (World.doorLaid Tryd.prog 400 os) #[.agg #[.int .i64 0, .int .i64 0, .int .i64 0, .int .i64 0, .int .i64 0, .slice none 0 0], .agg #[.int .i64 0, .int .i64 0, .int .i64 0, .int .i64 0, .int .i64 0, .slice none 0 0], .agg #[.int .i64 0, .int .i64 0, .int .i64 0, .int .i64 0, .int .i64 0, .slice none 0 0], .slice none 0 0, .slice none 0 0, .slice none 0 0, .int .i64 0] 8 rfl (World.shaped_of_RefB (by kernel_rfl) (by kernel_rfl)) (by kernel_rfl) (by kernel_rfl) (by kernel_rfl) (door_met os _)) ?_
  intro W base args ds gs before hval0 hW _ _ hL _
  have hval : ∀ (j : Nat) t v, Tryd.f8.params[j]? = some t → args[j]? = some v → Value.okWide Tryd.prog W .any base t v := hval0
  have hW' := hW
  obtain ⟨p, q, hA0, hV, rfl, hfz, hnd⟩ := hW
  have hA : DataW.TrodAll enc Tryd.prog W 0 (fun _ => true) true Tryd.f8.params.toList args.toList ds p := hA0
  rw [Tryd.params8] at hA hval
  obtain ⟨v0, vs0, d0, ds0, p0, q0, hargs, rfl, rfl, h0, r0⟩ := trodAll_cons hA
  obtain ⟨v1, vs1, d1, ds1, p1, q1, rfl, rfl, rfl, h1, r1⟩ := trodAll_cons r0
  obtain ⟨v2, vs2, d2, ds2, p2, q2, rfl, rfl, rfl, h2, r2⟩ := trodAll_cons r1
  obtain ⟨v3, vs3, d3, ds3, p3, q3, rfl, rfl, rfl, h3, r3⟩ := trodAll_cons r2
  obtain ⟨v4, vs4, d4, ds4, p4, q4, rfl, rfl, rfl, h4, r4⟩ := trodAll_cons r3
  obtain ⟨v5, vs5, d5, ds5, p5, q5, rfl, rfl, rfl, h5, r5⟩ := trodAll_cons r4
  obtain ⟨v6, vs6, d6, ds6, p6, q6, rfl, rfl, rfl, h6, r6⟩ := trodAll_cons r5
  obtain ⟨rfl, rfl, rfl⟩ := trodAll_nil r6
  obtain rfl : args = #[v0, v1, v2, v3, v4, v5, v6] := by cases args; simp_all
  obtain ⟨rfl, rfl⟩ := trodVars_none hV
  have k0 := h0
  have lt0 : ∀ x ∈ p0, x.block < W.heap.size := by obtain ⟨m, hm⟩ := k0; exact DataW.trod_lt m _ _ _ hm
  obtain ⟨c0, a0, cap0, rfl, w0, i0a, i0b, i0c, i0d, i0e⟩ := open_conf (hval 0 24 v0 rfl rfl) h0
  have k1 := h1
  have lt1 : ∀ x ∈ p1, x.block < W.heap.size := by obtain ⟨m, hm⟩ := k1; exact DataW.trod_lt m _ _ _ hm
  obtain ⟨c1, a1, cap1, rfl, w1, i1a, i1b, i1c, i1d, i1e⟩ := open_frame (hval 1 29 v1 rfl rfl) h1
  have k2 := h2
  have lt2 : ∀ x ∈ p2, x.block < W.heap.size := by obtain ⟨m, hm⟩ := k2; exact DataW.trod_lt m _ _ _ hm
  obtain ⟨c2, a2, cap2, rfl, w2, i2a, i2b, i2c, i2d, i2e⟩ := open_frame (hval 2 29 v2 rfl rfl) h2
  have k3 := h3
  have lt3 : ∀ x ∈ p3, x.block < W.heap.size := by obtain ⟨m, hm⟩ := k3; exact DataW.trod_lt m _ _ _ hm
  obtain ⟨a3, len3, cap3, rfl⟩ := okWide_slice Tryd.underlying22 (hval 3 22 v3 rfl rfl)
  obtain ⟨z3, e3, w3⟩ : ∃ zs : List Int, len3 = zs.length ∧ Row W a3 zs := by
    obtain ⟨fuel, hf⟩ := h3
    rcases open_ints Tryd.underlying22 Tryd.underlying3 (by kernel_rfl) hf with ⟨hcs, _⟩ | ⟨x, l, c, zs, hcs, _, hl, hm, hz, _, hcell, hwz⟩
    · simp [Value.cells] at hcs
      obtain ⟨rfl, rfl, rfl⟩ := hcs
      exact row_nil W
    · simp [Value.cells] at hcs
      obtain ⟨rfl, rfl, rfl⟩ := hcs
      exact row_of hl hm (by rw [hz]; split <;> omega) hcell hwz
  subst e3
  have k4 := h4
  have lt4 : ∀ x ∈ p4, x.block < W.heap.size := by obtain ⟨m, hm⟩ := k4; exact DataW.trod_lt m _ _ _ hm
  obtain ⟨a4, len4, cap4, rfl⟩ := okWide_slice Tryd.underlying22 (hval 4 22 v4 rfl rfl)
  obtain ⟨z4, e4, w4⟩ : ∃ zs : List Int, len4 = zs.length ∧ Row W a4 zs := by
    obtain ⟨fuel, hf⟩ := h4
    rcases open_ints Tryd.underlying22 Tryd.underlying3 (by kernel_rfl) hf with ⟨hcs, _⟩ | ⟨x, l, c, zs, hcs, _, hl, hm, hz, _, hcell, hwz⟩
    · simp [Value.cells] at hcs
      obtain ⟨rfl, rfl, rfl⟩ := hcs
      exact row_nil W
    · simp [Value.cells] at hcs
      obtain ⟨rfl, rfl, rfl⟩ := hcs
      exact row_of hl hm (by rw [hz]; split <;> omega) hcell hwz
  subst e4
  have k5 := h5
  have lt5 : ∀ x ∈ p5, x.block < W.heap.size := by obtain ⟨m, hm⟩ := k5; exact DataW.trod_lt m _ _ _ hm
  obtain ⟨a5, len5, cap5, rfl⟩ := okWide_slice Tryd.underlying22 (hval 5 22 v5 rfl rfl)
  obtain ⟨z5, e5, w5⟩ : ∃ zs : List Int, len5 = zs.length ∧ Row W a5 zs := by
    obtain ⟨fuel, hf⟩ := h5
    rcases open_ints Tryd.underlying22 Tryd.underlying3 (by kernel_rfl) hf with ⟨hcs, _⟩ | ⟨x, l, c, zs, hcs, _, hl, hm, hz, _, hcell, hwz⟩
    · simp [Value.cells] at hcs
      obtain ⟨rfl, rfl, rfl⟩ := hcs
      exact row_nil W
    · simp [Value.cells] at hcs
      obtain ⟨rfl, rfl, rfl⟩ := hcs
      exact row_of hl hm (by rw [hz]; split <;> omega) hcell hwz
  subst e5
  obtain ⟨a6, rfl, rfl, rfl, w6⟩ := open_int Tryd.underlying3 (hval 6 3 v6 rfl rfl) h6
  clear hA0 hval0
  refine (arbTurned_walk c0 a0 cap0 c1 a1 cap1 c2 a2 cap2 a3 z3 cap3 a4 z4 cap4 a5 z5 cap5 a6 W (of_laid hL) w0 i0a i0b i0c i0d i0e w1 i1a i1b i1c i1d i1e w2 i2a i2b i2c i2d i2e w3 w4 w5 (wf_lo w6) (wf_hi w6)).mono fun e W' ⟨he, bel⟩ => ?_
  subst he
  exact ⟨_, rfl, _, _, _, [], _, [], hW', trodAll_mk1 (shut_bool Tryd.underlying4 _), (trodAll_cons_mk (Below.trod laidOut (by kernel_rfl) (of_decide_eq_true (by kernel_rfl)) k0 bel lt0) (trodAll_cons_mk (Below.trod laidOut (by kernel_rfl) (of_decide_eq_true (by kernel_rfl)) k1 bel lt1) (trodAll_cons_mk (Below.trod laidOut (by kernel_rfl) (of_decide_eq_true (by kernel_rfl)) k2 bel lt2) (trodAll_cons_mk (Below.trod laidOut (by kernel_rfl) (of_decide_eq_true (by kernel_rfl)) k3 bel lt3) (trodAll_cons_mk (Below.trod laidOut (by kernel_rfl) (of_decide_eq_true (by kernel_rfl)) k4 bel lt4) (trodAll_cons_mk (Below.trod laidOut (by kernel_rfl) (of_decide_eq_true (by kernel_rfl)) k5 bel lt5) (trodAll_cons_mk (shut_int Tryd.underlying3 w6) trodAll_mk0))))))), rfl, bel.frame _, fun h => by cases h⟩

theorem arbTurned_over : Rows.arbTurnedRow.holds Tryd.pinned (OpenSpec.ofChange Rows.arbTurnedSpec) :=
  OpenClaim.holds_of_wide 8 Tryd.f8 rfl rfl rfl rfl rfl rfl rfl ⟨rfl, rfl, rfl, rfl, rfl⟩ rfl rfl rfl rfl rfl (by kernel_rfl) Tryd.func8 (by kernel_rfl)
    (of_decide_eq_true (by kernel_rfl)) (by unfold Func.isWrapper; first | (rw [if_pos (by decide +kernel)]; kernel_rfl) | (rw [if_neg (by decide +kernel)]; exact ⟨rfl, rfl⟩))
    (fun os started H enc _ => arbTurned_lifted os started H enc)

theorem arbTurned_holds : Rows.ArbTurnedCardSaid :=
  Claim7.holds_tied_plain_at .later [] [.wider] true (true, "006ea62dc85fac090e9905e82acde7d14dedde7539dceda8060da74993108850") true
    arbTurned_over (fun _ h => by cases h) (by kernel_rfl) (fun _ h => by cases h) arbTurned_row_tie rfl ⟨rfl, rfl⟩ (by kernel_rfl) rfl
    (fun f fn hf hfn => by
      obtain rfl : f = 8 := Option.some.inj ((show Tryd.prog.funcNamed Tryd.f8.name = some 8 by kernel_rfl).symm.trans hf) |>.symm
      obtain rfl : fn = Tryd.f8 := (Option.some.inj (Tryd.func8.symm.trans hfn)).symm
      exact ⟨by kernel_rfl, fun j t ht => by
        rw [Tryd.params8] at ht
        have hm : t ∈ [24, 29, 29, 22, 22, 22, 3] := by
          have := Array.mem_of_getElem? ht
          simpa using this
        have hall : ([24, 29, 29, 22, 22, 22, 3].all fun u => !Tryd.prog.wantsStandIn u) = true := by kernel_rfl
        exact (show Tryd.prog.wantsStandIn t = false by simpa using List.all_eq_true.1 hall t hm)⟩)
    (by kernel_rfl)
#print axioms arbTurned_holds
end Go.Proofs.YthhmedlefahccabDoor

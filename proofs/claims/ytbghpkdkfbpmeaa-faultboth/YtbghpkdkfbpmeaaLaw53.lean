/-
  What the laws hold on to while frames are read: the network's box.
-/
import Derived.Test.YtbghpkdkfbpmeaaLaw52
namespace Go.Proofs.Ytbghpkdkfbpmeaa
open Go.RowKit Plait
set_option maxRecDepth 100000
set_option linter.unusedVariables false

/-- The network d lies boxed at db; all that lay at the start is as it was. -/
def HeldD (d : Cf) (da : Option Addr) (dc db : Nat) (w W : World) : Prop := Below w.heap.size w W ∧ Blk W db 24 (confBox d da dc)

theorem HeldD.next {d : Cf} {da : Option Addr} {dc db : Nat} {w W W' : World} (h : HeldD d da dc db w W) (hb : Below W.heap.size W W') : HeldD d da dc db w W' := ⟨h.1.trans (hb.mono h.1.size), h.2.later hb⟩
theorem HeldD.drew {d : Cf} {da : Option Addr} {dc db : Nat} {w W : World} (h : HeldD d da dc db w W) : HeldD d da dc db w W.drew := h.next (Below.refl _ _).drew
theorem HeldD.alloc {d : Cf} {da : Option Addr} {dc db : Nat} {w W : World} (h : HeldD d da dc db w W) (o : Obj) : HeldD d da dc db w (W.alloc o) := h.next (alloc_below _ _)
theorem HeldD.set {d : Cf} {da : Option Addr} {dc db : Nat} {w W : World} (h : HeldD d da dc db w W) {g : Nat} (hg : w.heap.size ≤ g ∧ db < g) (k : Nat) (u : Value) : HeldD d da dc db w (W.setCell ⟨g, k, none⟩ u) :=
  ⟨h.1.setCell (by show w.heap.size ≤ g; omega) u, h.2.far (by show db ≠ g; omega) u⟩
theorem HeldD.set6 {d : Cf} {da : Option Addr} {dc db : Nat} {w W : World} (h : HeldD d da dc db w W) {g : Nat} (hg : w.heap.size ≤ g ∧ db < g) (u0 u1 u2 u3 u4 u5 : Value) :
    HeldD d da dc db w ((((((W.setCell ⟨g, 0, none⟩ u0).setCell ⟨g, 1, none⟩ u1).setCell ⟨g, 2, none⟩ u2).setCell ⟨g, 3, none⟩ u3).setCell ⟨g, 4, none⟩ u4).setCell ⟨g, 5, none⟩ u5) := (((((h.set hg 0 u0).set hg 1 u1).set hg 2 u2).set hg 3 u3).set hg 4 u4).set hg 5 u5
theorem HeldD.new {d : Cf} {da : Option Addr} {dc db : Nat} {w W : World} (h : HeldD d da dc db w W) : w.heap.size ≤ W.heap.size ∧ db < W.heap.size := ⟨h.1.size, h.2.lt⟩
theorem HeldD.cells {d : Cf} {da : Option Addr} {dc db : Nat} {w W : World} (h : HeldD d da dc db w W) : W.cell? ⟨db, 0, none⟩ = some (.int .i64 d.N) ∧ W.cell? ⟨db, 1, none⟩ = some (.int .i64 d.Pi) ∧ W.cell? ⟨db, 2, none⟩ = some (.int .i64 d.E) ∧ W.cell? ⟨db, 3, none⟩ = some (.int .i64 d.G) ∧ W.cell? ⟨db, 4, none⟩ = some (.int .i64 d.F) ∧ W.cell? ⟨db, 5, none⟩ = some (.slice da d.P.length dc) :=
  ⟨by rw [h.2.at]; rfl, by rw [h.2.at]; rfl, by rw [h.2.at]; rfl, by rw [h.2.at]; rfl, by rw [h.2.at]; rfl, by rw [h.2.at]; rfl⟩

/-- The frame f's box, too. -/
def HeldDF (d : Cf) (da : Option Addr) (dc db : Nat) (f : Fr) (fa : Option Addr) (fc : Nat) (w W : World) : Prop := HeldD d da dc db w W ∧ Blk W (w.heap.size + 1) 82 (frBox f fa fc)
theorem HeldDF.next {d : Cf} {da : Option Addr} {dc db : Nat} {f : Fr} {fa : Option Addr} {fc : Nat} {w W W' : World} (h : HeldDF d da dc db f fa fc w W) (hb : Below W.heap.size W W') : HeldDF d da dc db f fa fc w W' := ⟨h.1.next hb, h.2.later hb⟩
theorem HeldDF.cells {d : Cf} {da : Option Addr} {dc db : Nat} {f : Fr} {fa : Option Addr} {fc : Nat} {w W : World} (h : HeldDF d da dc db f fa fc w W) : W.cell? ⟨db, 0, none⟩ = some (.int .i64 d.N) ∧ W.cell? ⟨db, 1, none⟩ = some (.int .i64 d.Pi) ∧ W.cell? ⟨db, 2, none⟩ = some (.int .i64 d.E) ∧ W.cell? ⟨db, 3, none⟩ = some (.int .i64 d.G) ∧ W.cell? ⟨db, 4, none⟩ = some (.int .i64 d.F) ∧ W.cell? ⟨db, 5, none⟩ = some (.slice da d.P.length dc) ∧
    W.cell? ⟨w.heap.size + 1, 0, none⟩ = some (.int .i64 f.K) ∧ W.cell? ⟨w.heap.size + 1, 1, none⟩ = some (.int .i64 f.R) ∧ W.cell? ⟨w.heap.size + 1, 2, none⟩ = some (.int .i64 f.S) ∧ W.cell? ⟨w.heap.size + 1, 3, none⟩ = some (.int .i64 f.P.K) ∧ W.cell? ⟨w.heap.size + 1, 4, none⟩ = some (.int .i64 f.P.V) ∧ W.cell? ⟨w.heap.size + 1, 5, none⟩ = some (.slice fa f.E.length fc) :=
  ⟨by rw [h.1.2.at]; rfl, by rw [h.1.2.at]; rfl, by rw [h.1.2.at]; rfl, by rw [h.1.2.at]; rfl, by rw [h.1.2.at]; rfl, by rw [h.1.2.at]; rfl, by rw [h.2.at]; rfl, by rw [h.2.at]; rfl, by rw [h.2.at]; rfl, by rw [h.2.at]; rfl, by rw [h.2.at]; rfl, by rw [h.2.at]; rfl⟩

/-- Read, where its answer is known. -/
theorem fRead_to (d : Cf) (da : Option Addr) (dc : Nat) (t : List UInt8) (w : World) (hok : d.Ok) (hs : t.length ≤ 1048576) (p : Fr) (er : Int) (h : readF d t = (p, er)) :
    Calls Try.prog 53 #[.agg #[.int .i64 d.N, .int .i64 d.Pi, .int .i64 d.E, .int .i64 d.G, .int .i64 d.F, .slice da d.P.length dc], .string ⟨t.toArray⟩] w fun e w' => ∃ (a : Option Addr) (cap : Nat), e = .returned (.tuple #[.agg #[.int .i64 p.K, .int .i64 p.R, .int .i64 p.S, .int .i64 p.P.K, .int .i64 p.P.V, .slice a p.E.length cap], .int .i64 er]) ∧ RowT w' a p.E ∧ Below w.heap.size w w' := by
  have hr := fRead_any d da dc t w hok hs
  rw [h] at hr
  exact hr.mono fun e w' ⟨a, cap, h1, h2, _, h3⟩ => ⟨a, cap, h1, h2, h3⟩

theorem fRead_at (d : Cf) (da : Option Addr) (dc : Nat) (t : List UInt8) (w : World) (hok : d.Ok) (hs : t.length ≤ 1048576) (p : Fr) (er : Int) (h : readF d t = (p, er)) :
    Calls Try.prog 53 #[.agg #[.int .i64 d.N, .int .i64 d.Pi, .int .i64 d.E, .int .i64 d.G, .int .i64 d.F, .slice da d.P.length dc], .string ⟨t.toArray⟩] w fun e w' => ∃ (a : Option Addr) (cap : Nat), e = .returned (.tuple #[.agg #[.int .i64 p.K, .int .i64 p.R, .int .i64 p.S, .int .i64 p.P.K, .int .i64 p.P.V, .slice a p.E.length cap], .int .i64 er]) ∧ RowT w' a p.E ∧ (∀ x, a = some x → w.heap.size ≤ x.block) ∧ Below w.heap.size w w' := by
  have hr := fRead_any d da dc t w hok hs
  rw [h] at hr
  exact hr

theorem turn_length (l : List UInt8) (i : Int) : (turn l i).length = l.length := by unfold turn; split <;> simp

/-- A new box of a frame, where a call has made memory since. -/
theorem box_since {w wm : World} (hb : Below (w.alloc (.cells zeroBox 82)).drew.heap.size (w.alloc (.cells zeroBox 82)).drew wm) : Blk wm w.heap.size 82 zeroBox := (Blk.drew1 (Blk.new w _ _)).later hb

end Go.Proofs.Ytbghpkdkfbpmeaa

/-
  plaitinglaw5's Make.
-/
import Derived.Test.YtbghpkdkfbpmeaaLaw50
namespace Go.Proofs.Ytbghpkdkfbpmeaa
open Go.RowKit Plait
set_option maxRecDepth 100000
set_option linter.unusedVariables false

/-- What a call answers that makes a frame. -/
def FrRet (f : Fr) (w : World) (e : Ending) (w' : World) : Prop :=
  ∃ (a : Option Addr) (cap : Nat), e = .returned (.agg #[.int .i64 f.K, .int .i64 f.R, .int .i64 f.S, .int .i64 f.P.K, .int .i64 f.P.V, .slice a f.E.length cap]) ∧ RowT w' a f.E ∧ (∀ x, a = some x → w.heap.size ≤ x.block) ∧ Below w.heap.size w w'

theorem from_drew {w wl : World} (hb : Below w.drew.heap.size w.drew wl) : Below w.heap.size w wl := (Below.refl _ w).drew.trans hb

theorem OwnT.weak {base base' : Nat} {w : World} {v : Value} {ts : List It} (h : OwnT base w v ts) (hb : base' ≤ base) : OwnT base' w v ts := by
  refine ⟨h.1, ?_⟩
  rcases h.2 with h | ⟨g, cap, cur, h1, h2, h3⟩
  · exact .inl h
  · exact .inr ⟨g, cap, cur, h1, by omega, h3⟩

/-- The same, and that the row is the call's own. -/
def FrRet2 (f : Fr) (w : World) (e : Ending) (w' : World) : Prop :=
  ∃ (a : Option Addr) (cap : Nat), e = .returned (.agg #[.int .i64 f.K, .int .i64 f.R, .int .i64 f.S, .int .i64 f.P.K, .int .i64 f.P.V, .slice a f.E.length cap]) ∧ RowT w' a f.E ∧ (∀ x, a = some x → w.heap.size ≤ x.block) ∧ OwnT w.heap.size w' (.slice a f.E.length cap) f.E ∧ Below w.heap.size w w'

/-- What holds on in Make: the boxes of c, f and the result. -/
def HeldM (c : Cf) (ca : Option Addr) (cc : Nat) (f : Fr) (fa : Option Addr) (fc : Nat) (w W : World) : Prop :=
  Below w.heap.size w W ∧ Blk W w.heap.size 24 (confBox c ca cc) ∧ Blk W (w.heap.size + 1) 82 (frBox f fa fc) ∧ Blk W (w.heap.size + 2) 82 zeroBox
theorem HeldM.next {c : Cf} {ca : Option Addr} {cc : Nat} {f : Fr} {fa : Option Addr} {fc : Nat} {w W W' : World} (h : HeldM c ca cc f fa fc w W) (hb : Below W.heap.size W W') : HeldM c ca cc f fa fc w W' :=
  ⟨h.1.trans (hb.mono h.1.size), h.2.1.later hb, h.2.2.1.later hb, h.2.2.2.later hb⟩
theorem HeldM.set {c : Cf} {ca : Option Addr} {cc : Nat} {f : Fr} {fa : Option Addr} {fc : Nat} {w W : World} (h : HeldM c ca cc f fa fc w W) {g : Nat} (hg : w.heap.size + 2 < g) (k : Nat) (u : Value) : HeldM c ca cc f fa fc w (W.setCell ⟨g, k, none⟩ u) :=
  ⟨h.1.setCell (by show w.heap.size ≤ g; omega) u, h.2.1.far (by show w.heap.size ≠ g; omega) u, h.2.2.1.far (by show w.heap.size + 1 ≠ g; omega) u, h.2.2.2.far (by show w.heap.size + 2 ≠ g; omega) u⟩
theorem HeldM.grown {c : Cf} {ca : Option Addr} {cc : Nat} {f : Fr} {fa : Option Addr} {fc : Nat} {w W W' : World} {row : Option Nat} (h : HeldM c ca cc f fa fc w W) (hg : W.grownBy W' row) (hr : ∀ g, row = some g → w.heap.size + 2 < g) : HeldM c ca cc f fa fc w W' :=
  ⟨below_grown h.1 h.1.size hg (fun g e => by have := hr g e; omega), h.2.1.grown hg (fun e => by have := hr _ e.symm; omega), h.2.2.1.grown hg (fun e => by have := hr _ e.symm; omega), h.2.2.2.grown hg (fun e => by have := hr _ e.symm; omega)⟩

/-- Make's variable g, boxed at g. -/
def MakeV (K R S PK PV : Int) (v : Value) : Array Value := #[.int .i64 K, .int .i64 R, .int .i64 S, .int .i64 PK, .int .i64 PV, v]

theorem makeV_set {wm : World} {g : Nat} (K R S : Int) (hx : Blk wm g 82 zeroBox) :
    Blk ((((((wm.setCell ⟨g, 0, none⟩ (.int .i64 K)).setCell ⟨g, 1, none⟩ (.int .i64 R)).setCell ⟨g, 2, none⟩ (.int .i64 S)).setCell ⟨g, 3, none⟩ (.int .i64 0)).setCell ⟨g, 4, none⟩ (.int .i64 0)).setCell ⟨g, 5, none⟩ (.slice none 0 0)) g 82 (MakeV K R S 0 0 (.slice none 0 0)) :=
  ((((((hx.set 0 (.int .i64 K)).set 1 (.int .i64 R)).set 2 (.int .i64 S)).set 3 (.int .i64 0)).set 4 (.int .i64 0)).set 5 (.slice none 0 0))

theorem sm_of {c : Cf} {ca : Option Addr} {cc : Nat} {f : Fr} {fa : Option Addr} {fc : Nat} {w W : World} (h : HeldM c ca cc f fa fc w W) : W.cell? ⟨w.heap.size + 1, 0, none⟩ = some (.int .i64 f.K) ∧ W.cell? ⟨w.heap.size + 1, 1, none⟩ = some (.int .i64 f.R) ∧ W.cell? ⟨w.heap.size + 1, 2, none⟩ = some (.int .i64 f.S) ∧ W.cell? ⟨w.heap.size, 0, none⟩ = some (.int .i64 c.N) ∧ W.cell? ⟨w.heap.size, 1, none⟩ = some (.int .i64 c.Pi) ∧ W.cell? ⟨w.heap.size, 2, none⟩ = some (.int .i64 c.E) ∧ W.cell? ⟨w.heap.size, 3, none⟩ = some (.int .i64 c.G) ∧ W.cell? ⟨w.heap.size, 4, none⟩ = some (.int .i64 c.F) ∧ W.cell? ⟨w.heap.size, 5, none⟩ = some (.slice ca c.P.length cc) :=
  ⟨by rw [h.2.2.1.at]; rfl, by rw [h.2.2.1.at]; rfl, by rw [h.2.2.1.at]; rfl, by rw [h.2.1.at]; rfl, by rw [h.2.1.at]; rfl, by rw [h.2.1.at]; rfl, by rw [h.2.1.at]; rfl, by rw [h.2.1.at]; rfl, by rw [h.2.1.at]; rfl⟩
theorem sm_next {c : Cf} {ca : Option Addr} {cc : Nat} {f : Fr} {w W W' : World} (h : W.cell? ⟨w.heap.size + 1, 0, none⟩ = some (.int .i64 f.K) ∧ W.cell? ⟨w.heap.size + 1, 1, none⟩ = some (.int .i64 f.R) ∧ W.cell? ⟨w.heap.size + 1, 2, none⟩ = some (.int .i64 f.S) ∧ W.cell? ⟨w.heap.size, 0, none⟩ = some (.int .i64 c.N) ∧ W.cell? ⟨w.heap.size, 1, none⟩ = some (.int .i64 c.Pi) ∧ W.cell? ⟨w.heap.size, 2, none⟩ = some (.int .i64 c.E) ∧ W.cell? ⟨w.heap.size, 3, none⟩ = some (.int .i64 c.G) ∧ W.cell? ⟨w.heap.size, 4, none⟩ = some (.int .i64 c.F) ∧ W.cell? ⟨w.heap.size, 5, none⟩ = some (.slice ca c.P.length cc)) (hb : Below W.heap.size W W') : W'.cell? ⟨w.heap.size + 1, 0, none⟩ = some (.int .i64 f.K) ∧ W'.cell? ⟨w.heap.size + 1, 1, none⟩ = some (.int .i64 f.R) ∧ W'.cell? ⟨w.heap.size + 1, 2, none⟩ = some (.int .i64 f.S) ∧ W'.cell? ⟨w.heap.size, 0, none⟩ = some (.int .i64 c.N) ∧ W'.cell? ⟨w.heap.size, 1, none⟩ = some (.int .i64 c.Pi) ∧ W'.cell? ⟨w.heap.size, 2, none⟩ = some (.int .i64 c.E) ∧ W'.cell? ⟨w.heap.size, 3, none⟩ = some (.int .i64 c.G) ∧ W'.cell? ⟨w.heap.size, 4, none⟩ = some (.int .i64 c.F) ∧ W'.cell? ⟨w.heap.size, 5, none⟩ = some (.slice ca c.P.length cc) := by
  obtain ⟨h0, h1, h2, h3, h4, h5, h6, h7, h8⟩ := h
  have n := fun {p : Addr} {v : Value} (e : W.cell? p = some v) => (hb.cell (p := p) (World.block_lt_of_cell? W p e)).trans e
  exact ⟨n h0, n h1, n h2, n h3, n h4, n h5, n h6, n h7, n h8⟩
theorem sm_set {c : Cf} {ca : Option Addr} {cc : Nat} {f : Fr} {w W : World} (h : W.cell? ⟨w.heap.size + 1, 0, none⟩ = some (.int .i64 f.K) ∧ W.cell? ⟨w.heap.size + 1, 1, none⟩ = some (.int .i64 f.R) ∧ W.cell? ⟨w.heap.size + 1, 2, none⟩ = some (.int .i64 f.S) ∧ W.cell? ⟨w.heap.size, 0, none⟩ = some (.int .i64 c.N) ∧ W.cell? ⟨w.heap.size, 1, none⟩ = some (.int .i64 c.Pi) ∧ W.cell? ⟨w.heap.size, 2, none⟩ = some (.int .i64 c.E) ∧ W.cell? ⟨w.heap.size, 3, none⟩ = some (.int .i64 c.G) ∧ W.cell? ⟨w.heap.size, 4, none⟩ = some (.int .i64 c.F) ∧ W.cell? ⟨w.heap.size, 5, none⟩ = some (.slice ca c.P.length cc)) {g : Nat} (hg : w.heap.size + 2 < g) (k : Nat) (u : Value) : (W.setCell ⟨g, k, none⟩ u).cell? ⟨w.heap.size + 1, 0, none⟩ = some (.int .i64 f.K) ∧ (W.setCell ⟨g, k, none⟩ u).cell? ⟨w.heap.size + 1, 1, none⟩ = some (.int .i64 f.R) ∧ (W.setCell ⟨g, k, none⟩ u).cell? ⟨w.heap.size + 1, 2, none⟩ = some (.int .i64 f.S) ∧ (W.setCell ⟨g, k, none⟩ u).cell? ⟨w.heap.size, 0, none⟩ = some (.int .i64 c.N) ∧ (W.setCell ⟨g, k, none⟩ u).cell? ⟨w.heap.size, 1, none⟩ = some (.int .i64 c.Pi) ∧ (W.setCell ⟨g, k, none⟩ u).cell? ⟨w.heap.size, 2, none⟩ = some (.int .i64 c.E) ∧ (W.setCell ⟨g, k, none⟩ u).cell? ⟨w.heap.size, 3, none⟩ = some (.int .i64 c.G) ∧ (W.setCell ⟨g, k, none⟩ u).cell? ⟨w.heap.size, 4, none⟩ = some (.int .i64 c.F) ∧ (W.setCell ⟨g, k, none⟩ u).cell? ⟨w.heap.size, 5, none⟩ = some (.slice ca c.P.length cc) := by
  obtain ⟨h0, h1, h2, h3, h4, h5, h6, h7, h8⟩ := h
  have n := fun {b o : Nat} {v : Value} (hb : b < g) (e : W.cell? ⟨b, o, none⟩ = some v) => (World.cell?_setCell_other W ⟨g, k, none⟩ ⟨b, o, none⟩ u (fun e' => by injection e' with e1; omega)).trans e
  exact ⟨n (by omega) h0, n (by omega) h1, n (by omega) h2, n (by omega) h3, n (by omega) h4, n (by omega) h5, n (by omega) h6, n (by omega) h7, n (by omega) h8⟩

attribute [local irreducible] World.alloc World.drew World.setCell

/-- The loop over the items. -/
def MakeAt (c : Cf) (ca : Option Addr) (cc : Nat) (f : Fr) (fa : Option Addr) (fc : Nat) (ns : List Int) (R s PK PV : Int) (n : Nat) (w : World) (g : Nat) (i : Value) (wx : World) : Prop :=
  ∃ (k : Nat) (v : Value), i = .int .i64 k ∧ k ≤ n ∧ HeldM c ca cc f fa fc w wx ∧ Blk wx g 82 (MakeV 3 R s PK PV v) ∧ OwnT (g + 1) wx v (makeE ns k)

theorem quo_le (y : Int) (k : Nat) (hy : 0 ≤ y) : 0 ≤ y / (1 + (k : Int)) ∧ (k = 0 → y / (1 + (k : Int)) = y) ∧ (0 < k → 2 * (y / (1 + (k : Int))) ≤ y) := by
  have a1 : 0 ≤ y / (1 + (k : Int)) := Int.ediv_nonneg hy (by omega)
  refine ⟨a1, fun e => by subst e; simp, fun h => ?_⟩
  have a2 : y / (1 + (k : Int)) * (1 + (k : Int)) ≤ y := Int.ediv_mul_le _ (by omega)
  have a3 : y / (1 + (k : Int)) * 2 ≤ y / (1 + (k : Int)) * (1 + (k : Int)) := Int.mul_le_mul_of_nonneg_left (by omega) a1
  omega

theorem tdiv_in (x : Int) (k : Nat) (hk : k ≤ 100) (h : inI x) : inI (x.tdiv (1 + (k : Int)) + k) ∧ inI (x.tdiv (1 + (k : Int))) := by
  obtain ⟨h1, h2⟩ := h
  unfold inI
  rcases Int.le_total 0 x with h | h
  · rw [Int.tdiv_eq_ediv_of_nonneg h]
    obtain ⟨a1, a2, a3⟩ := quo_le x k h
    generalize x / (1 + (k : Int)) = q at *
    rcases Nat.eq_zero_or_pos k with e | e
    · have := a2 e; omega
    · have := a3 e; omega
  · have e : x.tdiv (1 + (k : Int)) = -((-x) / (1 + (k : Int))) := by
      have := Int.neg_tdiv (-x) (1 + (k : Int))
      rw [show -(-x) = x by omega] at this
      rw [this, Int.tdiv_eq_ediv_of_nonneg (by omega)]
    rw [e]
    obtain ⟨a1, a2, a3⟩ := quo_le (-x) k (by omega)
    generalize (-x) / (1 + (k : Int)) = q at *
    rcases Nat.eq_zero_or_pos k with e | e
    · have := a2 e; omega
    · have := a3 e; omega

theorem makeE_in (ns : List Int) (k : Nat) : ∀ t ∈ makeE ns k, inI t.K ∧ inI t.V := by
  intro t ht
  have := makeE_all ns k t ht
  unfold itemB at this
  unfold inI
  split at this
  · simp at this; omega
  · split at this
    · simp at this; omega
    · split at this
      · simp at this; omega
      · simp at this

end Go.Proofs.Ytbghpkdkfbpmeaa

/-
  plaitinglaw5's Make.
-/
import Derived.Test.YtbghpkdkfbpmeaaK3
import Derived.Test.YtbghpkdkfbpmeaaK1
import Derived.Deep.AppendLies
import Derived.Test.YtbghpkdkfbpmeaaK2
import Derived.Lib.OthersKept
namespace Go.Proofs.Ytbghpkdkfbpmeaa
open Go.RowKit Plait
set_option maxRecDepth 100000
set_option linter.unusedVariables false

/-- What a call answers that makes a frame. -/
def FrRet (f : Fr) (w : World) (e : Ending) (w' : World) : Prop :=
  ∃ (a : Option Addr) (cap : Nat), e = .returned (.agg #[.int .i64 f.K, .int .i64 f.R, .int .i64 f.S, .int .i64 f.P.K, .int .i64 f.P.V, .slice a f.E.length cap]) ∧ RowT w' a f.E ∧ (∀ x, a = some x → w.heap.size ≤ x.block) ∧ Below w.heap.size w w'

theorem from_drew {w wl : World} (hb : Below w.drew.heap.size w.drew wl) : Below w.heap.size w wl := (Below.refl _ w).drew.trans hb

theorem OwnT.weak {base base' : Nat} {w : World} {v : Value} {ts : List It} (h : OwnT base w v ts) (hb : base' ≤ base) : OwnT base' w v ts := by
  refine ⟨h.1, ?_⟩
  rcases h.2 with h | ⟨g, cap, cur, h1, h2, h3⟩
  · exact .inl h
  · exact .inr ⟨g, cap, cur, h1, by omega, h3⟩

/-- The same, and that the row is the call's own. -/
def FrRet2 (f : Fr) (w : World) (e : Ending) (w' : World) : Prop :=
  ∃ (a : Option Addr) (cap : Nat), e = .returned (.agg #[.int .i64 f.K, .int .i64 f.R, .int .i64 f.S, .int .i64 f.P.K, .int .i64 f.P.V, .slice a f.E.length cap]) ∧ RowT w' a f.E ∧ (∀ x, a = some x → w.heap.size ≤ x.block) ∧ OwnT w.heap.size w' (.slice a f.E.length cap) f.E ∧ Below w.heap.size w w'

/-- What holds on in Make: the boxes of c, f and the result. -/
def HeldM (c : Cf) (ca : Option Addr) (cc : Nat) (f : Fr) (fa : Option Addr) (fc : Nat) (w W : World) : Prop :=
  Below w.heap.size w W ∧ Blk W w.heap.size 24 (confBox c ca cc) ∧ Blk W (w.heap.size + 1) 82 (frBox f fa fc) ∧ Blk W (w.heap.size + 2) 82 zeroBox
theorem HeldM.next {c : Cf} {ca : Option Addr} {cc : Nat} {f : Fr} {fa : Option Addr} {fc : Nat} {w W W' : World} (h : HeldM c ca cc f fa fc w W) (hb : Below W.heap.size W W') : HeldM c ca cc f fa fc w W' :=
  ⟨h.1.trans (hb.mono h.1.size), h.2.1.later hb, h.2.2.1.later hb, h.2.2.2.later hb⟩
theorem HeldM.set {c : Cf} {ca : Option Addr} {cc : Nat} {f : Fr} {fa : Option Addr} {fc : Nat} {w W : World} (h : HeldM c ca cc f fa fc w W) {g : Nat} (hg : w.heap.size + 2 < g) (k : Nat) (u : Value) : HeldM c ca cc f fa fc w (W.setCell ⟨g, k, none⟩ u) :=
  ⟨h.1.setCell (by show w.heap.size ≤ g; omega) u, h.2.1.far (by show w.heap.size ≠ g; omega) u, h.2.2.1.far (by show w.heap.size + 1 ≠ g; omega) u, h.2.2.2.far (by show w.heap.size + 2 ≠ g; omega) u⟩
theorem HeldM.grown {c : Cf} {ca : Option Addr} {cc : Nat} {f : Fr} {fa : Option Addr} {fc : Nat} {w W W' : World} {row : Option Nat} (h : HeldM c ca cc f fa fc w W) (hg : W.grownBy W' row) (hr : ∀ g, row = some g → w.heap.size + 2 < g) : HeldM c ca cc f fa fc w W' :=
  ⟨below_grown h.1 h.1.size hg (fun g e => by have := hr g e; omega), h.2.1.grown hg (fun e => by have := hr _ e.symm; omega), h.2.2.1.grown hg (fun e => by have := hr _ e.symm; omega), h.2.2.2.grown hg (fun e => by have := hr _ e.symm; omega)⟩

/-- Make's variable g, boxed at g. -/
def MakeV (K R S PK PV : Int) (v : Value) : Array Value := #[.int .i64 K, .int .i64 R, .int .i64 S, .int .i64 PK, .int .i64 PV, v]

theorem makeV_set {wm : World} {g : Nat} (K R S : Int) (hx : Blk wm g 82 zeroBox) :
    Blk ((((((wm.setCell ⟨g, 0, none⟩ (.int .i64 K)).setCell ⟨g, 1, none⟩ (.int .i64 R)).setCell ⟨g, 2, none⟩ (.int .i64 S)).setCell ⟨g, 3, none⟩ (.int .i64 0)).setCell ⟨g, 4, none⟩ (.int .i64 0)).setCell ⟨g, 5, none⟩ (.slice none 0 0)) g 82 (MakeV K R S 0 0 (.slice none 0 0)) :=
  ((((((hx.set 0 (.int .i64 K)).set 1 (.int .i64 R)).set 2 (.int .i64 S)).set 3 (.int .i64 0)).set 4 (.int .i64 0)).set 5 (.slice none 0 0))

theorem sm_of {c : Cf} {ca : Option Addr} {cc : Nat} {f : Fr} {fa : Option Addr} {fc : Nat} {w W : World} (h : HeldM c ca cc f fa fc w W) : W.cell? ⟨w.heap.size + 1, 0, none⟩ = some (.int .i64 f.K) ∧ W.cell? ⟨w.heap.size + 1, 1, none⟩ = some (.int .i64 f.R) ∧ W.cell? ⟨w.heap.size + 1, 2, none⟩ = some (.int .i64 f.S) ∧ W.cell? ⟨w.heap.size, 0, none⟩ = some (.int .i64 c.N) ∧ W.cell? ⟨w.heap.size, 1, none⟩ = some (.int .i64 c.Pi) ∧ W.cell? ⟨w.heap.size, 2, none⟩ = some (.int .i64 c.E) ∧ W.cell? ⟨w.heap.size, 3, none⟩ = some (.int .i64 c.G) ∧ W.cell? ⟨w.heap.size, 4, none⟩ = some (.int .i64 c.F) ∧ W.cell? ⟨w.heap.size, 5, none⟩ = some (.slice ca c.P.length cc) :=
  ⟨by rw [h.2.2.1.at]; rfl, by rw [h.2.2.1.at]; rfl, by rw [h.2.2.1.at]; rfl, by rw [h.2.1.at]; rfl, by rw [h.2.1.at]; rfl, by rw [h.2.1.at]; rfl, by rw [h.2.1.at]; rfl, by rw [h.2.1.at]; rfl, by rw [h.2.1.at]; rfl⟩
theorem sm_next {c : Cf} {ca : Option Addr} {cc : Nat} {f : Fr} {w W W' : World} (h : W.cell? ⟨w.heap.size + 1, 0, none⟩ = some (.int .i64 f.K) ∧ W.cell? ⟨w.heap.size + 1, 1, none⟩ = some (.int .i64 f.R) ∧ W.cell? ⟨w.heap.size + 1, 2, none⟩ = some (.int .i64 f.S) ∧ W.cell? ⟨w.heap.size, 0, none⟩ = some (.int .i64 c.N) ∧ W.cell? ⟨w.heap.size, 1, none⟩ = some (.int .i64 c.Pi) ∧ W.cell? ⟨w.heap.size, 2, none⟩ = some (.int .i64 c.E) ∧ W.cell? ⟨w.heap.size, 3, none⟩ = some (.int .i64 c.G) ∧ W.cell? ⟨w.heap.size, 4, none⟩ = some (.int .i64 c.F) ∧ W.cell? ⟨w.heap.size, 5, none⟩ = some (.slice ca c.P.length cc)) (hb : Below W.heap.size W W') : W'.cell? ⟨w.heap.size + 1, 0, none⟩ = some (.int .i64 f.K) ∧ W'.cell? ⟨w.heap.size + 1, 1, none⟩ = some (.int .i64 f.R) ∧ W'.cell? ⟨w.heap.size + 1, 2, none⟩ = some (.int .i64 f.S) ∧ W'.cell? ⟨w.heap.size, 0, none⟩ = some (.int .i64 c.N) ∧ W'.cell? ⟨w.heap.size, 1, none⟩ = some (.int .i64 c.Pi) ∧ W'.cell? ⟨w.heap.size, 2, none⟩ = some (.int .i64 c.E) ∧ W'.cell? ⟨w.heap.size, 3, none⟩ = some (.int .i64 c.G) ∧ W'.cell? ⟨w.heap.size, 4, none⟩ = some (.int .i64 c.F) ∧ W'.cell? ⟨w.heap.size, 5, none⟩ = some (.slice ca c.P.length cc) := by
  obtain ⟨h0, h1, h2, h3, h4, h5, h6, h7, h8⟩ := h
  have n := fun {p : Addr} {v : Value} (e : W.cell? p = some v) => (hb.cell (p := p) (World.block_lt_of_cell? W p e)).trans e
  exact ⟨n h0, n h1, n h2, n h3, n h4, n h5, n h6, n h7, n h8⟩
theorem sm_set {c : Cf} {ca : Option Addr} {cc : Nat} {f : Fr} {w W : World} (h : W.cell? ⟨w.heap.size + 1, 0, none⟩ = some (.int .i64 f.K) ∧ W.cell? ⟨w.heap.size + 1, 1, none⟩ = some (.int .i64 f.R) ∧ W.cell? ⟨w.heap.size + 1, 2, none⟩ = some (.int .i64 f.S) ∧ W.cell? ⟨w.heap.size, 0, none⟩ = some (.int .i64 c.N) ∧ W.cell? ⟨w.heap.size, 1, none⟩ = some (.int .i64 c.Pi) ∧ W.cell? ⟨w.heap.size, 2, none⟩ = some (.int .i64 c.E) ∧ W.cell? ⟨w.heap.size, 3, none⟩ = some (.int .i64 c.G) ∧ W.cell? ⟨w.heap.size, 4, none⟩ = some (.int .i64 c.F) ∧ W.cell? ⟨w.heap.size, 5, none⟩ = some (.slice ca c.P.length cc)) {g : Nat} (hg : w.heap.size + 2 < g) (k : Nat) (u : Value) : (W.setCell ⟨g, k, none⟩ u).cell? ⟨w.heap.size + 1, 0, none⟩ = some (.int .i64 f.K) ∧ (W.setCell ⟨g, k, none⟩ u).cell? ⟨w.heap.size + 1, 1, none⟩ = some (.int .i64 f.R) ∧ (W.setCell ⟨g, k, none⟩ u).cell? ⟨w.heap.size + 1, 2, none⟩ = some (.int .i64 f.S) ∧ (W.setCell ⟨g, k, none⟩ u).cell? ⟨w.heap.size, 0, none⟩ = some (.int .i64 c.N) ∧ (W.setCell ⟨g, k, none⟩ u).cell? ⟨w.heap.size, 1, none⟩ = some (.int .i64 c.Pi) ∧ (W.setCell ⟨g, k, none⟩ u).cell? ⟨w.heap.size, 2, none⟩ = some (.int .i64 c.E) ∧ (W.setCell ⟨g, k, none⟩ u).cell? ⟨w.heap.size, 3, none⟩ = some (.int .i64 c.G) ∧ (W.setCell ⟨g, k, none⟩ u).cell? ⟨w.heap.size, 4, none⟩ = some (.int .i64 c.F) ∧ (W.setCell ⟨g, k, none⟩ u).cell? ⟨w.heap.size, 5, none⟩ = some (.slice ca c.P.length cc) := by
  obtain ⟨h0, h1, h2, h3, h4, h5, h6, h7, h8⟩ := h
  have n := fun {b o : Nat} {v : Value} (hb : b < g) (e : W.cell? ⟨b, o, none⟩ = some v) => (World.cell?_setCell_other W ⟨g, k, none⟩ ⟨b, o, none⟩ u (fun e' => by injection e' with e1; omega)).trans e
  exact ⟨n (by omega) h0, n (by omega) h1, n (by omega) h2, n (by omega) h3, n (by omega) h4, n (by omega) h5, n (by omega) h6, n (by omega) h7, n (by omega) h8⟩

attribute [local irreducible] World.alloc World.drew World.setCell

/-- The loop over the items. -/
def MakeAt (c : Cf) (ca : Option Addr) (cc : Nat) (f : Fr) (fa : Option Addr) (fc : Nat) (ns : List Int) (R s PK PV : Int) (n : Nat) (w : World) (g : Nat) (i : Value) (wx : World) : Prop :=
  ∃ (k : Nat) (v : Value), i = .int .i64 k ∧ k ≤ n ∧ HeldM c ca cc f fa fc w wx ∧ Blk wx g 82 (MakeV 3 R s PK PV v) ∧ OwnT (g + 1) wx v (makeE ns k)

theorem quo_le (y : Int) (k : Nat) (hy : 0 ≤ y) : 0 ≤ y / (1 + (k : Int)) ∧ (k = 0 → y / (1 + (k : Int)) = y) ∧ (0 < k → 2 * (y / (1 + (k : Int))) ≤ y) := by
  have a1 : 0 ≤ y / (1 + (k : Int)) := Int.ediv_nonneg hy (by omega)
  refine ⟨a1, fun e => by subst e; simp, fun h => ?_⟩
  have a2 : y / (1 + (k : Int)) * (1 + (k : Int)) ≤ y := Int.ediv_mul_le _ (by omega)
  have a3 : y / (1 + (k : Int)) * 2 ≤ y / (1 + (k : Int)) * (1 + (k : Int)) := Int.mul_le_mul_of_nonneg_left (by omega) a1
  omega

theorem tdiv_in (x : Int) (k : Nat) (hk : k ≤ 100) (h : inI x) : inI (x.tdiv (1 + (k : Int)) + k) ∧ inI (x.tdiv (1 + (k : Int))) := by
  obtain ⟨h1, h2⟩ := h
  unfold inI
  rcases Int.le_total 0 x with h | h
  · rw [Int.tdiv_eq_ediv_of_nonneg h]
    obtain ⟨a1, a2, a3⟩ := quo_le x k h
    generalize x / (1 + (k : Int)) = q at *
    rcases Nat.eq_zero_or_pos k with e | e
    · have := a2 e; omega
    · have := a3 e; omega
  · have e : x.tdiv (1 + (k : Int)) = -((-x) / (1 + (k : Int))) := by
      have := Int.neg_tdiv (-x) (1 + (k : Int))
      rw [show -(-x) = x by omega] at this
      rw [this, Int.tdiv_eq_ediv_of_nonneg (by omega)]
    rw [e]
    obtain ⟨a1, a2, a3⟩ := quo_le (-x) k (by omega)
    generalize (-x) / (1 + (k : Int)) = q at *
    rcases Nat.eq_zero_or_pos k with e | e
    · have := a2 e; omega
    · have := a3 e; omega

theorem makeE_in (ns : List Int) (k : Nat) : ∀ t ∈ makeE ns k, inI t.K ∧ inI t.V := by
  intro t ht
  have := makeE_all ns k t ht
  unfold itemB at this
  unfold inI
  split at this
  · simp at this; omega
  · split at this
    · simp at this; omega
    · split at this
      · simp at this; omega
      · simp at this

end Go.Proofs.Ytbghpkdkfbpmeaa
/-
  Contracts of package conf, first part: numbers of a network, who is a node, whose pair slot it is, a slot's owners; nothing that was in memory is changed.
-/
namespace Go.Proofs.Ytbghpkdkfbpmeaa
open Go.RowKit Plait
set_option maxRecDepth 100000
set_option linter.unusedVariables false

theorem cslots_any (c : Cf) (a : Option Addr) (cap : Nat) (w : World) (hc : c.Ok) :
    Calls Try.prog 70 #[.agg #[.int .i64 c.N, .int .i64 c.Pi, .int .i64 c.E, .int .i64 c.G, .int .i64 c.F, .slice a c.P.length cap]] w fun e w' => e = .returned (.int .i64 (slotsI c)) ∧ Below w.heap.size w w' := by
  have h1 := hc.n6; have h2 := hc.n12; have h3 := hc.len
  go_enter Try.func70, Try.ntmps70
  go_wp2
  go_ret
  exact ⟨rfl, (Below.refl _ _).alloc (Nat.le_refl _) _⟩

theorem cwindow_any (c : Cf) (a : Option Addr) (cap : Nat) (w : World) (hc : c.Ok) :
    Calls Try.prog 33 #[.agg #[.int .i64 c.N, .int .i64 c.Pi, .int .i64 c.E, .int .i64 c.G, .int .i64 c.F, .slice a c.P.length cap]] w fun e w' => e = .returned (.int .i64 (windowI c)) ∧ Below w.heap.size w w' := by
  have h1 := hc.p0; have h2 := hc.p1; have h3 := hc.e0; have h4 := hc.g0
  go_enter Try.func33, Try.ntmps33
  go_wp2
  go_ret
  exact ⟨rfl, (Below.refl _ _).alloc (Nat.le_refl _) _⟩

theorem cwire_any (c : Cf) (a : Option Addr) (cap : Nat) (r : Int) (w : World) (hc : c.Ok) (hr : 0 ≤ r) (hr2 : r ≤ 1099511627776) :
    Calls Try.prog 69 #[.agg #[.int .i64 c.N, .int .i64 c.Pi, .int .i64 c.E, .int .i64 c.G, .int .i64 c.F, .slice a c.P.length cap], .int .i64 r] w fun e w' => e = .returned (.int .i64 (wireI c r)) ∧ Below w.heap.size w w' := by
  have h1 := hc.f0; have h2 := hc.f1
  have hd : IntKind.u16.wrap (c.F + r) = (c.F + r) % 65536 := by simp [IntKind.wrap, IntKind.signed, IntKind.bits]
  have HF := Lib.hid (show (c.F + r) % 65536 = wireI c r from rfl)
  go_enter Try.func69, Try.ntmps69
  go_wp2
  go_ret
  exact ⟨ret_int (by rw [← HF.out]), (Below.refl _ _).alloc (Nat.le_refl _) _⟩

/-- The loop of pairOf: none of the pairs ahead of k has the slot. -/
def PairAt (c : Cf) (s : Int) (i : Value) : Prop := ∃ k : Nat, k ≤ c.P.length ∧ i = .int .i64 k ∧ ∀ j : Nat, j < k → s ≠ c.N + j

end Go.Proofs.Ytbghpkdkfbpmeaa
/-
  Contracts of package frame, first part: whether a frame may be; nothing that was in memory is changed.
-/
namespace Go.Proofs.Ytbghpkdkfbpmeaa
open Go.RowKit Plait
set_option maxRecDepth 100000
set_option linter.unusedVariables false

theorem fisOwn_any (c : Cf) (ca : Option Addr) (cc : Nat) (s : Int) (w : World) :
    Calls Try.prog 78 #[.agg #[.int .i64 c.N, .int .i64 c.Pi, .int .i64 c.E, .int .i64 c.G, .int .i64 c.F, .slice ca c.P.length cc], .int .i64 s] w fun e w' => e = .returned (.bool (decide (s < c.N))) ∧ Below w.heap.size w w' := by
  go_enter Try.func78, Try.ntmps78
  go_wp2
  go_ret
  exact ⟨rfl, alloc_below _ _⟩

theorem froundHolds_any (r : Int) (w : World) :
    Calls Try.prog 80 #[.int .i64 r] w fun e w' => e = .returned (.bool (decide (0 ≤ r) && decide (r ≤ 65535))) ∧ w = w' := by
  cases h : decide (0 ≤ r)
  · go_enter Try.func80, Try.ntmps80
    go_wp2
    go_ret
    exact ⟨rfl, rfl⟩
  · go_enter Try.func80, Try.ntmps80
    go_wp2
    go_ret
    exact ⟨ret_bool (by simp), rfl⟩

theorem fslotHolds_any (c : Cf) (ca : Option Addr) (cc : Nat) (s : Int) (w : World) (hc : c.Ok) :
    Calls Try.prog 79 #[.agg #[.int .i64 c.N, .int .i64 c.Pi, .int .i64 c.E, .int .i64 c.G, .int .i64 c.F, .slice ca c.P.length cc], .int .i64 s] w fun e w' => e = .returned (.bool (decide (0 ≤ s) && decide (s < slotsI c))) ∧ Below w.heap.size w w' := by
  cases h : decide (0 ≤ s)
  · go_enter Try.func79, Try.ntmps79
    go_wp2
    go_ret
    exact ⟨rfl, alloc_below _ _⟩
  · go_enter Try.func79, Try.ntmps79
    go_wp2_with fail
    refine (cslots_any c ca cc _ hc).mono ?_
    rintro e wn ⟨rfl, hb⟩
    obtain ⟨hB, hK, hZ⟩ := boxed hb
    have hQ := hK.at
    clear hb
    go_wp2
    go_ret
    exact ⟨ret_bool (by simp), hB⟩

set_option maxHeartbeats 800000 in
theorem fisNoItem_any (i : It) (w : World) :
    Calls Try.prog 84 #[.agg #[.int .i64 i.K, .int .i64 i.V]] w fun e w' => e = .returned (.bool (!itemB i false)) ∧ Below w.heap.size w w' := by
  by_cases k0 : i.K = 0
  · have HF := Lib.hid (show (!itemB i false) = (i.V != 0) by unfold itemB; rw [if_pos k0]; simp [bne])
    have c0 : (i.K == 0) = true := by simpa using k0
    clear k0
    go_enter Try.func84, Try.ntmps84
    go_wp2
    go_ret
    exact ⟨ret_bool HF.out.symm, alloc_below _ _⟩
  · have c0 : (i.K == 0) = false := by simpa using k0
    by_cases k1 : i.K = 1
    · have HF := Lib.hid (show (!itemB i false) = (i.V != 0) by unfold itemB; rw [if_neg k0, if_pos k1]; simp [bne])
      have c1 : (i.K == 1) = true := by simpa using k1
      clear k0 k1
      go_enter Try.func84, Try.ntmps84
      go_wp2
      go_ret
      exact ⟨ret_bool HF.out.symm, alloc_below _ _⟩
    · have c1 : (i.K == 1) = false := by simpa using k1
      by_cases k2 : i.K = 2
      · have HF := Lib.hid (show (!itemB i false) = (decide (i.V < 0) || decide (255 < i.V)) by
          unfold itemB
          rw [if_neg k0, if_neg k1, if_pos k2]
          by_cases h1 : i.V < 0
          · simp [h1]
          · by_cases h2 : 255 < i.V
            · simp [h1, h2]
            · simp [h1, h2]; omega)
        have c2 : (i.K == 2) = true := by simpa using k2
        clear k0 k1 k2
        cases hv : decide (i.V < 0)
        · rw [hv] at HF
          go_enter Try.func84, Try.ntmps84
          go_wp2
          go_ret
          exact ⟨ret_bool (by rw [HF.out]; simp), alloc_below _ _⟩
        · rw [hv] at HF
          go_enter Try.func84, Try.ntmps84
          go_wp2
          go_ret
          exact ⟨ret_bool (by rw [HF.out]; rfl), alloc_below _ _⟩
      · have HF := Lib.hid (show (!itemB i false) = true by unfold itemB; rw [if_neg k0, if_neg k1, if_neg k2]; rfl)
        have c2 : (i.K == 2) = false := by simpa using k2
        clear k0 k1 k2
        go_enter Try.func84, Try.ntmps84
        go_wp2
        go_ret
        exact ⟨ret_bool HF.out.symm, alloc_below _ _⟩

set_option maxHeartbeats 800000 in
theorem fkindHolds_any (c : Cf) (ca : Option Addr) (cc : Nat) (f : Fr) (a : Option Addr) (cap : Nat) (w : World) :
    Calls Try.prog 81 #[.agg #[.int .i64 c.N, .int .i64 c.Pi, .int .i64 c.E, .int .i64 c.G, .int .i64 c.F, .slice ca c.P.length cc], .agg #[.int .i64 f.K, .int .i64 f.R, .int .i64 f.S, .int .i64 f.P.K, .int .i64 f.P.V, .slice a f.E.length cap]] w fun e w' => e = .returned (.bool (!badK c f)) ∧ Below w.heap.size w w' := by
  have hB : Below w.heap.size w ((w.alloc (.cells #[.int .i64 c.N, .int .i64 c.Pi, .int .i64 c.E, .int .i64 c.G, .int .i64 c.F, .slice ca c.P.length cc] 24)).alloc (.cells #[.int .i64 f.K, .int .i64 f.R, .int .i64 f.S, .int .i64 f.P.K, .int .i64 f.P.V, .slice a f.E.length cap] 82)) := (alloc_below w _).alloc (by simp) _
  have own : f.K = 1 ∨ f.K = 2 → (!badK c f) = decide (f.S < c.N) := fun h => by
    unfold badK
    by_cases hs : f.S < c.N
    · have : ¬ c.N ≤ f.S := by omega
      rcases h with h | h <;> simp [h, hs]
    · have : c.N ≤ f.S := by omega
      rcases h with h | h <;> simp [h, hs, this]
  by_cases k1 : f.K = 1
  · have HF := Lib.hid (own (.inl k1))
    have c1 : (f.K == 1) = true := by simpa using k1
    clear k1 own
    go_enter Try.func81, Try.ntmps81
    go_wp2_with fail
    refine (fisOwn_any c ca cc f.S _).mono ?_
    rintro e wn ⟨rfl, hb⟩
    go_wp2
    go_ret
    exact ⟨ret_bool HF.out.symm, hB.trans (hb.mono hB.size)⟩
  · have c1 : (f.K == 1) = false := by simpa using k1
    by_cases k2 : f.K = 2
    · have HF := Lib.hid (own (.inr k2))
      have c2 : (f.K == 2) = true := by simpa using k2
      clear k1 k2 own
      go_enter Try.func81, Try.ntmps81
      go_wp2_with fail
      refine (fisOwn_any c ca cc f.S _).mono ?_
      rintro e wn ⟨rfl, hb⟩
      go_wp2
      go_ret
      exact ⟨ret_bool HF.out.symm, hB.trans (hb.mono hB.size)⟩
    · have c2 : (f.K == 2) = false := by simpa using k2
      by_cases k3 : f.K = 3
      · have HF := Lib.hid (show (!badK c f) = true by unfold badK; simp [k3])
        have c3 : (f.K == 3) = true := by simpa using k3
        clear k1 k2 k3 own
        go_enter Try.func81, Try.ntmps81
        go_wp2
        go_ret
        exact ⟨ret_bool HF.out.symm, hB⟩
      · have HF := Lib.hid (show (!badK c f) = false by
          unfold badK
          by_cases h1 : f.K < 1
          · simp [h1]
          · have : 3 < f.K := by omega
            simp [h1, this])
        have c3 : (f.K == 3) = false := by simpa using k3
        clear k1 k2 k3 own
        go_enter Try.func81, Try.ntmps81
        go_wp2
        go_ret
        exact ⟨ret_bool HF.out.symm, hB⟩

theorem pay_spec (f : Fr) : (!badP f) = (!(!itemB f.P false) && ((f.P.K != 0) == (f.K == 3))) := by
  unfold badP
  cases hK : (f.K == 3)
  · have : (f.K != 3) = true := by rw [bne, hK]; rfl
    rw [this]
    cases itemB f.P false <;> cases h0 : (f.P.K != 0) <;> rfl
  · have : (f.K != 3) = false := by rw [bne, hK]; rfl
    rw [this]
    unfold itemB
    by_cases k0 : f.P.K = 0
    · simp [k0]
    · simp [k0]

set_option maxHeartbeats 800000 in
theorem fpayHolds_any (f : Fr) (a : Option Addr) (cap : Nat) (w : World) :
    Calls Try.prog 82 #[.agg #[.int .i64 f.K, .int .i64 f.R, .int .i64 f.S, .int .i64 f.P.K, .int .i64 f.P.V, .slice a f.E.length cap]] w fun e w' => e = .returned (.bool (!badP f)) ∧ Below w.heap.size w w' := by
  have HF := Lib.hid (pay_spec f)
  have HC := Lib.hid (fun W => fisNoItem_any f.P W)
  cases hi : itemB f.P false
  · rw [hi] at HF HC
    go_enter Try.func82, Try.ntmps82
    go_wp2_with fail
    refine (HC.out _).mono ?_
    rintro e wn ⟨rfl, hb⟩
    obtain ⟨hB, hK, hZ⟩ := boxed hb
    have hQ := hK.at
    clear hb
    go_wp2
    go_ret
    exact ⟨ret_bool (by rw [HF.out]; rfl), hB⟩
  · rw [hi] at HF HC
    go_enter Try.func82, Try.ntmps82
    go_wp2_with fail
    refine (HC.out _).mono ?_
    rintro e wn ⟨rfl, hb⟩
    obtain ⟨hB, hK, hZ⟩ := boxed hb
    have hQ := hK.at
    clear hb
    go_wp2
    go_ret
    exact ⟨ret_bool (by rw [HF.out]; simp), hB⟩

set_option maxHeartbeats 800000 in
theorem fechoes_any (c : Cf) (ca : Option Addr) (cc : Nat) (f : Fr) (a : Option Addr) (cap : Nat) (w : World) (hc : c.Ok) :
    Calls Try.prog 67 #[.agg #[.int .i64 c.N, .int .i64 c.Pi, .int .i64 c.E, .int .i64 c.G, .int .i64 c.F, .slice ca c.P.length cc], .agg #[.int .i64 f.K, .int .i64 f.R, .int .i64 f.S, .int .i64 f.P.K, .int .i64 f.P.V, .slice a f.E.length cap]] w fun e w' => e = .returned (.int .i64 (echoI c f.K f.S)) ∧ Below w.heap.size w w' := by
  have hB : Below w.heap.size w ((w.alloc (.cells #[.int .i64 c.N, .int .i64 c.Pi, .int .i64 c.E, .int .i64 c.G, .int .i64 c.F, .slice ca c.P.length cc] 24)).alloc (.cells #[.int .i64 f.K, .int .i64 f.R, .int .i64 f.S, .int .i64 f.P.K, .int .i64 f.P.V, .slice a f.E.length cap] 82)) := (alloc_below w _).alloc (by simp) _
  have hC : Blk ((w.alloc (.cells #[.int .i64 c.N, .int .i64 c.Pi, .int .i64 c.E, .int .i64 c.G, .int .i64 c.F, .slice ca c.P.length cc] 24)).alloc (.cells #[.int .i64 f.K, .int .i64 f.R, .int .i64 f.S, .int .i64 f.P.K, .int .i64 f.P.V, .slice a f.E.length cap] 82)) w.heap.size 24 (confBox c ca cc) := (Blk.new w _ _).alloc _
  by_cases h3 : f.K = 3
  · have c3 : (f.K == 3) = true := by simpa using h3
    by_cases hs : f.S < c.N
    · have HF := Lib.hid (show echoI c f.K f.S = slotsI c by unfold echoI; rw [if_pos ⟨h3, hs⟩])
      have d1 : decide (f.S < c.N) = true := by simpa using hs
      clear h3 hs
      go_enter Try.func67, Try.ntmps67
      go_wp2_with fail
      refine (fisOwn_any c ca cc f.S _).mono ?_
      rintro e wn ⟨rfl, hb⟩
      rw [d1]
      replace hB := hB.trans (hb.mono hB.size)
      replace hC := hC.later hb
      have hQ := hC.at
      unfold confBox at hQ
      clear hb
      go_wp2_with fail
      refine (cslots_any c ca cc _ hc).mono ?_
      rintro e wm ⟨rfl, hb⟩
      go_wp2
      go_ret
      exact ⟨ret_int HF.out.symm, hB.trans (hb.mono hB.size)⟩
    · have HF := Lib.hid (show echoI c f.K f.S = 0 by unfold echoI; rw [if_neg (by simp [hs])])
      have d1 : decide (f.S < c.N) = false := by simpa using hs
      clear h3 hs
      go_enter Try.func67, Try.ntmps67
      go_wp2_with fail
      refine (fisOwn_any c ca cc f.S _).mono ?_
      rintro e wn ⟨rfl, hb⟩
      rw [d1]
      go_wp2
      go_ret
      exact ⟨ret_int HF.out.symm, hB.trans (hb.mono hB.size)⟩
  · have HF := Lib.hid (show echoI c f.K f.S = 0 by unfold echoI; rw [if_neg (by simp [h3])])
    have c3 : (f.K == 3) = false := by simpa using h3
    clear h3
    go_enter Try.func67, Try.ntmps67
    go_wp2
    go_ret
    exact ⟨ret_int HF.out.symm, hB⟩

/-- The first item that is none. -/
theorem no_take (E : List It) (k : Nat) (h : k < E.length) (ha : ∀ i ∈ E.take k, itemB i false = true) (e : itemB E[k] false = true) : ∀ i ∈ E.take (k + 1), itemB i false = true := by
  rw [List.take_succ_eq_append_getElem h]
  intro i hi
  rcases List.mem_append.1 hi with h | h
  · exact ha i h
  · simp at h; rw [h]; exact e

set_option maxHeartbeats 800000 in
theorem fcontains_any (a : Option Addr) (E : List It) (cap : Nat) (w : World) (hE : RowT w a E) :
    Calls Try.prog 83 #[.slice a E.length cap, .func (.func 84) #[] #[]] w fun e w' => e = .returned (.bool (!E.all (itemB · false))) ∧ Below w.heap.size w w' := by
  have HI := Lib.hid (show Calls Try.prog 88 #[.slice a E.length cap, .func (.func 84) #[] #[]] w fun e w' => (∃ r : Int, e = .returned (.int .i64 r) ∧ decide (0 ≤ r) = !E.all (itemB · false)) ∧ Below w.heap.size w w' from by
    have hlen := hE.1
    go_enter Try.func88, Try.ntmps88
    go_wp2
    go_loopw [5, 8] (fun _ i w' => ∃ k : Nat, k ≤ E.length ∧ i = .int .i64 k ∧ (E.take k).all (itemB · false) = true ∧ Below w.heap.size w w') (fun _ i _ => E.length - (intOf i).toNat)
    case atStart => exact ⟨0, Nat.zero_le _, rfl, by simp, Below.refl _ _⟩
    case round =>
      obtain ⟨k, hk, rfl, hno, hB⟩ := hrel
      have HN := Lib.hid hno
      clear hno
      by_cases hlt : k < E.length
      · have d1 : decide (k < E.length) = true := by simpa using hlt
        obtain ⟨b, off, rfl, hbl, c1, c2, _, _⟩ := (hE.later hB).get k hlt
        have HC := Lib.hid (fun W => fisNoItem_any E[k] W)
        cases hx : itemB E[k] false
        · have HF := Lib.hid (all_no E k hlt hx)
          rw [hx] at HC
          clear hx
          generalize E[k] = t at *
          go_wp2_with fail
          refine (HC.out _).mono ?_
          rintro e wn ⟨rfl, hb⟩
          go_wp2
          go_ret
          exact ⟨⟨_, rfl, by rw [HF.out]; simp⟩, hB.trans (hb.mono hB.size)⟩
        · have HS := Lib.hid (all_step E k hlt HN.out hx)
          rw [hx] at HC
          clear hx
          generalize E[k] = t at *
          go_wp2_with fail
          refine (HC.out _).mono ?_
          rintro e wn ⟨rfl, hb⟩
          go_wp2
          go_roundw
          case rel => exact ⟨k + 1, by omega, by go_num, HS.out, hB.trans (hb.mono hB.size)⟩
          case measure => simp [intOf]; omega
      · have d1 : decide (k < E.length) = false := by simpa using hlt
        have HF := Lib.hid (all_end E k hlt HN.out)
        go_wp2
        go_ret
        exact ⟨⟨_, rfl, by rw [HF.out]; rfl⟩, hB⟩)
  go_enter Try.func83, Try.ntmps83
  go_wp2_with fail
  refine HI.out.mono ?_
  rintro e wn ⟨⟨r, rfl, hr⟩, hb⟩
  have HR := Lib.hid hr
  clear hr
  go_wp2
  go_ret
  exact ⟨ret_bool HR.out, hb⟩

end Go.Proofs.Ytbghpkdkfbpmeaa
/-
  Contracts of package frame, second part: Check.
-/
namespace Go.Proofs.Ytbghpkdkfbpmeaa
open Go.RowKit Plait
set_option maxRecDepth 100000
set_option linter.unusedVariables false

theorem badA_spec (c : Cf) (f : Fr) : badA c f = (!(decide (0 ≤ f.S) && decide (f.S < slotsI c)) || !(decide (0 ≤ f.R) && decide (f.R ≤ 65535))) := by
  unfold badA
  rw [show decide (f.S < 0) = !decide (0 ≤ f.S) by rw [← decide_not]; congr 1; exact propext ⟨by omega, by omega⟩, show decide (slotsI c ≤ f.S) = !decide (f.S < slotsI c) by rw [← decide_not]; congr 1; exact propext ⟨by omega, by omega⟩,
    show decide (f.R < 0) = !decide (0 ≤ f.R) by rw [← decide_not]; congr 1; exact propext ⟨by omega, by omega⟩, show decide (65536 ≤ f.R) = !decide (f.R ≤ 65535) by rw [← decide_not]; congr 1; exact propext ⟨by omega, by omega⟩]
  cases decide (0 ≤ f.S) <;> cases decide (f.S < slotsI c) <;> cases decide (0 ≤ f.R) <;> cases decide (f.R ≤ 65535) <;> rfl

set_option maxHeartbeats 3200000 in
theorem fCheck_any (c : Cf) (ca : Option Addr) (cc : Nat) (f : Fr) (a : Option Addr) (cap : Nat) (w : World) (hc : c.Ok) (hE : RowT w a f.E) :
    Calls Try.prog 68 #[.agg #[.int .i64 c.N, .int .i64 c.Pi, .int .i64 c.E, .int .i64 c.G, .int .i64 c.F, .slice ca c.P.length cc], .agg #[.int .i64 f.K, .int .i64 f.R, .int .i64 f.S, .int .i64 f.P.K, .int .i64 f.P.V, .slice a f.E.length cap]] w fun e w' => e = .returned (.int .i64 (checkF c f)) ∧ Below w.heap.size w w' := by
  have hB : Below w.heap.size w ((w.alloc (.cells #[.int .i64 c.N, .int .i64 c.Pi, .int .i64 c.E, .int .i64 c.G, .int .i64 c.F, .slice ca c.P.length cc] 24)).alloc (.cells #[.int .i64 f.K, .int .i64 f.R, .int .i64 f.S, .int .i64 f.P.K, .int .i64 f.P.V, .slice a f.E.length cap] 82)) := (alloc_below w _).alloc (by simp) _
  have hC : Blk ((w.alloc (.cells #[.int .i64 c.N, .int .i64 c.Pi, .int .i64 c.E, .int .i64 c.G, .int .i64 c.F, .slice ca c.P.length cc] 24)).alloc (.cells #[.int .i64 f.K, .int .i64 f.R, .int .i64 f.S, .int .i64 f.P.K, .int .i64 f.P.V, .slice a f.E.length cap] 82)) w.heap.size 24 (confBox c ca cc) := (Blk.new w _ _).alloc _
  have hK : Blk ((w.alloc (.cells #[.int .i64 c.N, .int .i64 c.Pi, .int .i64 c.E, .int .i64 c.G, .int .i64 c.F, .slice ca c.P.length cc] 24)).alloc (.cells #[.int .i64 f.K, .int .i64 f.R, .int .i64 f.S, .int .i64 f.P.K, .int .i64 f.P.V, .slice a f.E.length cap] 82)) (w.heap.size + 1) 82 (frBox f a cap) := Blk.newAt _ _ (by simp)
  have hlen := hE.1
  replace hE := hE.later hB
  have HA := Lib.hid (badA_spec c f)
  have HSl := Lib.hid (fun W => fslotHolds_any c ca cc f.S W hc)
  have HRo := Lib.hid (fun W => froundHolds_any f.R W)
  have HKi := Lib.hid (fun W => fkindHolds_any c ca cc f a cap W)
  have HPa := Lib.hid (fun W => fpayHolds_any f a cap W)
  have HEc := Lib.hid (fun W => fechoes_any c ca cc f a cap W hc)
  generalize (decide (0 ≤ f.S) && decide (f.S < slotsI c)) = bs at *
  generalize (decide (0 ≤ f.R) && decide (f.R ≤ 65535)) = br at *
  cases bs
  · have HF := Lib.hid (checkF_a c f (by rw [HA.out]; rfl))
    go_enter Try.func68, Try.ntmps68
    go_wp2_with fail
    refine (HSl.out _).mono ?_
    rintro e wn ⟨rfl, hb⟩
    (try clear hQc hQf)
    replace hB := hB.trans (hb.mono hB.size)
    replace hC := hC.later hb
    replace hK := hK.later hb
    replace hE := hE.later hb
    have hQc := hC.at
    have hQf := hK.at
    unfold confBox at hQc
    unfold frBox at hQf
    clear hb
    go_wp2
    go_ret
    exact ⟨ret_int HF.out.symm, hB⟩
  cases br
  · have HF := Lib.hid (checkF_a c f (by rw [HA.out]; rfl))
    go_enter Try.func68, Try.ntmps68
    go_wp2_with fail
    refine (HSl.out _).mono ?_
    rintro e wn ⟨rfl, hb⟩
    (try clear hQc hQf)
    replace hB := hB.trans (hb.mono hB.size)
    replace hC := hC.later hb
    replace hK := hK.later hb
    replace hE := hE.later hb
    have hQc := hC.at
    have hQf := hK.at
    unfold confBox at hQc
    unfold frBox at hQf
    clear hb
    go_wp2_with fail
    refine (HRo.out _).mono ?_
    rintro e wl ⟨rfl, rfl⟩
    go_wp2
    go_ret
    exact ⟨ret_int HF.out.symm, hB⟩
  cases hk : badK c f
  rotate_left
  · have HF := Lib.hid (checkF_k c f (by rw [HA.out]; rfl) hk)
    rw [hk] at HKi
    go_enter Try.func68, Try.ntmps68
    go_wp2_with fail
    refine (HSl.out _).mono ?_
    rintro e wn ⟨rfl, hb⟩
    (try clear hQc hQf)
    replace hB := hB.trans (hb.mono hB.size)
    replace hC := hC.later hb
    replace hK := hK.later hb
    replace hE := hE.later hb
    have hQc := hC.at
    have hQf := hK.at
    unfold confBox at hQc
    unfold frBox at hQf
    clear hb
    go_wp2_with fail
    refine (HRo.out _).mono ?_
    rintro e wl ⟨rfl, rfl⟩
    go_wp2_with fail
    refine (HKi.out _).mono ?_
    rintro e wn ⟨rfl, hb⟩
    (try clear hQc hQf)
    replace hB := hB.trans (hb.mono hB.size)
    replace hC := hC.later hb
    replace hK := hK.later hb
    replace hE := hE.later hb
    have hQc := hC.at
    have hQf := hK.at
    unfold confBox at hQc
    unfold frBox at hQf
    clear hb
    go_wp2
    go_ret
    exact ⟨ret_int HF.out.symm, hB⟩
  rw [hk] at HKi
  cases hp : badP f
  rotate_left
  · have HF := Lib.hid (checkF_p c f (by rw [HA.out]; rfl) hk hp)
    rw [hp] at HPa
    go_enter Try.func68, Try.ntmps68
    go_wp2_with fail
    refine (HSl.out _).mono ?_
    rintro e wn ⟨rfl, hb⟩
    (try clear hQc hQf)
    replace hB := hB.trans (hb.mono hB.size)
    replace hC := hC.later hb
    replace hK := hK.later hb
    replace hE := hE.later hb
    have hQc := hC.at
    have hQf := hK.at
    unfold confBox at hQc
    unfold frBox at hQf
    clear hb
    go_wp2_with fail
    refine (HRo.out _).mono ?_
    rintro e wl ⟨rfl, rfl⟩
    go_wp2_with fail
    refine (HKi.out _).mono ?_
    rintro e wn ⟨rfl, hb⟩
    (try clear hQc hQf)
    replace hB := hB.trans (hb.mono hB.size)
    replace hC := hC.later hb
    replace hK := hK.later hb
    replace hE := hE.later hb
    have hQc := hC.at
    have hQf := hK.at
    unfold confBox at hQc
    unfold frBox at hQf
    clear hb
    go_wp2_with fail
    refine (HPa.out _).mono ?_
    rintro e wn ⟨rfl, hb⟩
    (try clear hQc hQf)
    replace hB := hB.trans (hb.mono hB.size)
    replace hC := hC.later hb
    replace hK := hK.later hb
    replace hE := hE.later hb
    have hQc := hC.at
    have hQf := hK.at
    unfold confBox at hQc
    unfold frBox at hQf
    clear hb
    go_wp2
    go_ret
    exact ⟨ret_int HF.out.symm, hB⟩
  rw [hp] at HPa
  by_cases hl : (f.E.length : Int) = echoI c f.K f.S
  · have HF := Lib.hid (checkF_e c f (by rw [HA.out]; rfl) hk hp hl)
    have d2 : ((f.E.length : Int) != echoI c f.K f.S) = false := by simpa using hl
    clear hl hk hp
    generalize echoI c f.K f.S = en at *
    have HCo := Lib.hid (fun W (h : RowT W a f.E) => fcontains_any a f.E cap W h)
    cases hx : f.E.all (itemB · false)
    all_goals
      rw [hx] at HF HCo
      clear hx
      go_enter Try.func68, Try.ntmps68
      go_wp2_with fail
      refine (HSl.out _).mono ?_
      rintro e wn ⟨rfl, hb⟩
      (try clear hQc hQf)
      replace hB := hB.trans (hb.mono hB.size)
      replace hC := hC.later hb
      replace hK := hK.later hb
      replace hE := hE.later hb
      have hQc := hC.at
      have hQf := hK.at
      unfold confBox at hQc
      unfold frBox at hQf
      clear hb
      go_wp2_with fail
      refine (HRo.out _).mono ?_
      rintro e wl ⟨rfl, rfl⟩
      go_wp2_with fail
      refine (HKi.out _).mono ?_
      rintro e wn ⟨rfl, hb⟩
      (try clear hQc hQf)
      replace hB := hB.trans (hb.mono hB.size)
      replace hC := hC.later hb
      replace hK := hK.later hb
      replace hE := hE.later hb
      have hQc := hC.at
      have hQf := hK.at
      unfold confBox at hQc
      unfold frBox at hQf
      clear hb
      go_wp2_with fail
      refine (HPa.out _).mono ?_
      rintro e wn ⟨rfl, hb⟩
      (try clear hQc hQf)
      replace hB := hB.trans (hb.mono hB.size)
      replace hC := hC.later hb
      replace hK := hK.later hb
      replace hE := hE.later hb
      have hQc := hC.at
      have hQf := hK.at
      unfold confBox at hQc
      unfold frBox at hQf
      clear hb
      go_wp2_with fail
      clear hQc hQf
      obtain ⟨I, F, i0, h0, hR, hcl⟩ := class_any wn (stable_and (stable_below w) (stable_and (stable_blk w.heap.size 24 (confBox c ca cc)) (stable_and (stable_blk (w.heap.size + 1) 82 (frBox f a cap)) (stable_rowT a f.E)))) ⟨hB, hC, hK, hE⟩
      have K_hB := Lib.hid (fun i => (hR i).1)
      have qhC0 : ∀ i, (F i).cell? ⟨w.heap.size, 0, none⟩ = some (.int .i64 c.N) := fun i => by rw [(hR i).2.1.at]; rfl
      have qhC1 : ∀ i, (F i).cell? ⟨w.heap.size, 1, none⟩ = some (.int .i64 c.Pi) := fun i => by rw [(hR i).2.1.at]; rfl
      have qhC2 : ∀ i, (F i).cell? ⟨w.heap.size, 2, none⟩ = some (.int .i64 c.E) := fun i => by rw [(hR i).2.1.at]; rfl
      have qhC3 : ∀ i, (F i).cell? ⟨w.heap.size, 3, none⟩ = some (.int .i64 c.G) := fun i => by rw [(hR i).2.1.at]; rfl
      have qhC4 : ∀ i, (F i).cell? ⟨w.heap.size, 4, none⟩ = some (.int .i64 c.F) := fun i => by rw [(hR i).2.1.at]; rfl
      have qhC5 : ∀ i, (F i).cell? ⟨w.heap.size, 5, none⟩ = some (.slice ca c.P.length cc) := fun i => by rw [(hR i).2.1.at]; rfl
      have K_hC := Lib.hid (fun i => (hR i).2.1)
      have qhK0 : ∀ i, (F i).cell? ⟨w.heap.size + 1, 0, none⟩ = some (.int .i64 f.K) := fun i => by rw [(hR i).2.2.1.at]; rfl
      have qhK1 : ∀ i, (F i).cell? ⟨w.heap.size + 1, 1, none⟩ = some (.int .i64 f.R) := fun i => by rw [(hR i).2.2.1.at]; rfl
      have qhK2 : ∀ i, (F i).cell? ⟨w.heap.size + 1, 2, none⟩ = some (.int .i64 f.S) := fun i => by rw [(hR i).2.2.1.at]; rfl
      have qhK3 : ∀ i, (F i).cell? ⟨w.heap.size + 1, 3, none⟩ = some (.int .i64 f.P.K) := fun i => by rw [(hR i).2.2.1.at]; rfl
      have qhK4 : ∀ i, (F i).cell? ⟨w.heap.size + 1, 4, none⟩ = some (.int .i64 f.P.V) := fun i => by rw [(hR i).2.2.1.at]; rfl
      have qhK5 : ∀ i, (F i).cell? ⟨w.heap.size + 1, 5, none⟩ = some (.slice a f.E.length cap) := fun i => by rw [(hR i).2.2.1.at]; rfl
      have K_hK := Lib.hid (fun i => (hR i).2.2.1)
      have K_hE := Lib.hid (fun i => (hR i).2.2.2)
      have HR := Lib.hid hR
      have HC := Lib.hid hcl
      have H0 := Lib.hid h0
      clear hR hcl h0
      haveI : Nonempty I := ⟨i0⟩
      refine wp_region_class F i0 H0.out (by kernel_rfl) (by kernel_rfl) ?_
      repeat (go_big_quiet_step ((first | (go_at_call 67; exact class_call HC.out (HEc.out _)))))
      refine wpQuiet_nil ?_
      intro _ hw'
      obtain ⟨iq, hw''⟩ := hw'
      subst hw''
      clear hB hC hK hE K_hB qhC0 qhC1 qhC2 qhC3 qhC4 qhC5 K_hC qhK0 qhK1 qhK2 qhK3 qhK4 qhK5 K_hK K_hE HC H0
      obtain ⟨hB, hC, hK, hE⟩ := HR.out iq
      clear HR
      generalize F iq = wn at *
      have hQf := hK.at
      unfold frBox at hQf
      have hQc := hC.at
      unfold confBox at hQc
      go_wp2_with fail
      refine (HCo.out _ hE).mono ?_
      rintro e wm ⟨rfl, hb⟩
      go_wp2
      go_ret
      exact ⟨ret_int HF.out.symm, hB.trans (hb.mono hB.size)⟩
  · have HF := Lib.hid (checkF_l c f (by rw [HA.out]; rfl) hk hp hl)
    have d2 : ((f.E.length : Int) != echoI c f.K f.S) = true := by simpa using hl
    clear hl hk hp
    generalize echoI c f.K f.S = en at *
    go_enter Try.func68, Try.ntmps68
    go_wp2_with fail
    refine (HSl.out _).mono ?_
    rintro e wn ⟨rfl, hb⟩
    (try clear hQc hQf)
    replace hB := hB.trans (hb.mono hB.size)
    replace hC := hC.later hb
    replace hK := hK.later hb
    replace hE := hE.later hb
    have hQc := hC.at
    have hQf := hK.at
    unfold confBox at hQc
    unfold frBox at hQf
    clear hb
    go_wp2_with fail
    refine (HRo.out _).mono ?_
    rintro e wl ⟨rfl, rfl⟩
    go_wp2_with fail
    refine (HKi.out _).mono ?_
    rintro e wn ⟨rfl, hb⟩
    (try clear hQc hQf)
    replace hB := hB.trans (hb.mono hB.size)
    replace hC := hC.later hb
    replace hK := hK.later hb
    replace hE := hE.later hb
    have hQc := hC.at
    have hQf := hK.at
    unfold confBox at hQc
    unfold frBox at hQf
    clear hb
    go_wp2_with fail
    refine (HPa.out _).mono ?_
    rintro e wn ⟨rfl, hb⟩
    (try clear hQc hQf)
    replace hB := hB.trans (hb.mono hB.size)
    replace hC := hC.later hb
    replace hK := hK.later hb
    replace hE := hE.later hb
    have hQc := hC.at
    have hQf := hK.at
    unfold confBox at hQc
    unfold frBox at hQf
    clear hb
    go_wp2_with fail
    clear hQc hQf
    obtain ⟨I, F, i0, h0, hR, hcl⟩ := class_any wn (stable_and (stable_below w) (stable_and (stable_blk w.heap.size 24 (confBox c ca cc)) (stable_and (stable_blk (w.heap.size + 1) 82 (frBox f a cap)) (stable_rowT a f.E)))) ⟨hB, hC, hK, hE⟩
    have K_hB := Lib.hid (fun i => (hR i).1)
    have qhC0 : ∀ i, (F i).cell? ⟨w.heap.size, 0, none⟩ = some (.int .i64 c.N) := fun i => by rw [(hR i).2.1.at]; rfl
    have qhC1 : ∀ i, (F i).cell? ⟨w.heap.size, 1, none⟩ = some (.int .i64 c.Pi) := fun i => by rw [(hR i).2.1.at]; rfl
    have qhC2 : ∀ i, (F i).cell? ⟨w.heap.size, 2, none⟩ = some (.int .i64 c.E) := fun i => by rw [(hR i).2.1.at]; rfl
    have qhC3 : ∀ i, (F i).cell? ⟨w.heap.size, 3, none⟩ = some (.int .i64 c.G) := fun i => by rw [(hR i).2.1.at]; rfl
    have qhC4 : ∀ i, (F i).cell? ⟨w.heap.size, 4, none⟩ = some (.int .i64 c.F) := fun i => by rw [(hR i).2.1.at]; rfl
    have qhC5 : ∀ i, (F i).cell? ⟨w.heap.size, 5, none⟩ = some (.slice ca c.P.length cc) := fun i => by rw [(hR i).2.1.at]; rfl
    have K_hC := Lib.hid (fun i => (hR i).2.1)
    have qhK0 : ∀ i, (F i).cell? ⟨w.heap.size + 1, 0, none⟩ = some (.int .i64 f.K) := fun i => by rw [(hR i).2.2.1.at]; rfl
    have qhK1 : ∀ i, (F i).cell? ⟨w.heap.size + 1, 1, none⟩ = some (.int .i64 f.R) := fun i => by rw [(hR i).2.2.1.at]; rfl
    have qhK2 : ∀ i, (F i).cell? ⟨w.heap.size + 1, 2, none⟩ = some (.int .i64 f.S) := fun i => by rw [(hR i).2.2.1.at]; rfl
    have qhK3 : ∀ i, (F i).cell? ⟨w.heap.size + 1, 3, none⟩ = some (.int .i64 f.P.K) := fun i => by rw [(hR i).2.2.1.at]; rfl
    have qhK4 : ∀ i, (F i).cell? ⟨w.heap.size + 1, 4, none⟩ = some (.int .i64 f.P.V) := fun i => by rw [(hR i).2.2.1.at]; rfl
    have qhK5 : ∀ i, (F i).cell? ⟨w.heap.size + 1, 5, none⟩ = some (.slice a f.E.length cap) := fun i => by rw [(hR i).2.2.1.at]; rfl
    have K_hK := Lib.hid (fun i => (hR i).2.2.1)
    have K_hE := Lib.hid (fun i => (hR i).2.2.2)
    have HR := Lib.hid hR
    have HC := Lib.hid hcl
    have H0 := Lib.hid h0
    clear hR hcl h0
    haveI : Nonempty I := ⟨i0⟩
    refine wp_region_class F i0 H0.out (by kernel_rfl) (by kernel_rfl) ?_
    repeat (go_big_quiet_step ((first | (go_at_call 67; exact class_call HC.out (HEc.out _)))))
    refine wpQuiet_nil ?_
    intro _ hw'
    obtain ⟨iq, hw''⟩ := hw'
    subst hw''
    clear hB hC hK hE K_hB qhC0 qhC1 qhC2 qhC3 qhC4 qhC5 K_hC qhK0 qhK1 qhK2 qhK3 qhK4 qhK5 K_hK K_hE HC H0
    obtain ⟨hB, hC, hK, hE⟩ := HR.out iq
    clear HR
    generalize F iq = wn at *
    have hQf := hK.at
    unfold frBox at hQf
    have hQc := hC.at
    unfold confBox at hQc
    go_wp2
    go_ret
    exact ⟨ret_int HF.out.symm, hB⟩

end Go.Proofs.Ytbghpkdkfbpmeaa
/-
  Appending a row that came in, or two numbers, to a row that the call made itself.
-/
namespace Go.Proofs.Ytbghpkdkfbpmeaa
open Go.RowKit
set_option maxRecDepth 100000
set_option linter.unusedVariables false

theorem OwnI.lit (w : World) (zs : List Int) (base : Nat) (hb : base ≤ w.heap.size) (hl : zs.length ≤ 1000000) : OwnI base (w.alloc (.cells (zs.map (Value.int .i64)).toArray 3)) (.slice (some ⟨w.heap.size, 0, none⟩) zs.length zs.length) zs := by
  have h := World.ownsRow_lit (base := base) (e := 3) (size := 1) w (zs.map (Value.int .i64)).toArray zs.length hb (by unfold maxLen; omega) (by simp)
  unfold OwnI
  simpa using h

theorem run_app_none {P : Program} (w : World) (base : Nat) (t ty e : TypeId) (i : TypeInfo) (size : Nat) (ht : P.underlying t = some (.slice e)) (hi : P.info? e = some i)
    (v : Value) (n : Nat) (xs : List Value) (hown : w.ownsRow base e size v n xs) (c : Nat) : (Builtin.append_ #[t, t] ty #[v, .slice none 0 c]).run P w = .ok v w := by
  rcases hown.2 with ⟨rfl, rfl⟩ | ⟨g, cap, cur, rfl, _, _, hnc, _⟩
  · simp [Builtin.append_, run_underlying ht, sizeOf, typeInfo, hi, Builtin.lenOf, Builtin.firstCells]
  · simp [Builtin.append_, run_underlying ht, sizeOf, typeInfo, hi, Builtin.lenOf, Builtin.firstCells, hnc, storeCells]

theorem run_appR (w : World) (ty : TypeId) (base : Nat) (v : Value) (zs : List Int) (hown : OwnI base w v zs) (A : Option Addr) (ys : List Int) (c : Nat) (hr : Row w A ys) (hlen : zs.length ≤ 1000000) (hlen2 : ys.length ≤ 1000000) (hbase : base ≤ w.heap.size) :
    ∃ v' w', (Builtin.append_ #[22, 22] ty #[v, .slice A ys.length c]).run Try.prog w = .ok v' w' ∧ OwnI base w' v' (zs ++ ys) ∧ w.grownBy w' v.ownBlock := by
  obtain ⟨i, hi, hz0, hz1, hz2⟩ := info_parts infoInt
  cases A with
  | none =>
    have hy : ys = [] := by
      rcases hr.2.2 with h | ⟨b, off, h, _⟩
      · exact h
      · cases h
    subst hy
    refine ⟨v, w, run_app_none w base _ ty 3 i 1 Try.underlying22 hi v zs.length _ hown c, by rw [List.append_nil]; exact hown, World.grownBy.refl w _⟩
  | some ad =>
    have hcells : ∀ j u, (ys.map (Value.int .i64))[j]? = some u → w.cell? (ad.add j) = some u := by
      intro j u hu
      rcases hr.2.2 with h | ⟨b, off, h, _, hc⟩
      · subst h; simp at hu
      · injection h with h
        subst h
        rw [List.getElem?_map] at hu
        obtain ⟨y, hy, rfl⟩ := Option.map_eq_some_iff.1 hu
        obtain ⟨hj, rfl⟩ := List.getElem?_eq_some_iff.1 hy
        rw [addr_at]
        exact hc j hj
    obtain ⟨v', w', hrun, h2, h3, _, _⟩ := run_append_own_at (P := Try.prog) w base 22 ty 3 i (.int .i64 0) 1 8 Try.underlying22 hi hz0 hz1 hz2 rfl (by omega) v zs.length _ hown ad ys.length c (ys.map (Value.int .i64)) (by simp) hcells
      (ints_oneCell .i64 ys) (by unfold maxLen; omega) (by omega) hbase
    refine ⟨v', w', hrun, ?_, h3⟩
    unfold OwnI
    rw [List.length_append, List.map_append]
    exact h2

/-- At a plain region's list. -/
theorem wpList_appR {ops : Array Oper} {rest : List Oper} {o : Oper} {a : Act} {Q : Exit → Act → World → Prop} (w : World) (hgd : o.guard = none) (s x : Operand)
    (ho : o.op = .call { callee := .builtin .append, args := #[s, x], argTypes := #[22, 22] })
    (base : Nat) (v : Value) (zs : List Int) (hs : a.eval s = v) (hown : OwnI base w v zs) (A : Option Addr) (ys : List Int) (c : Nat) (hx : a.eval x = .slice A ys.length c) (hr : Row w A ys) (hlen : zs.length ≤ 1000000) (hlen2 : ys.length ≤ 1000000) (hbase : base ≤ w.heap.size)
    (h : ∀ v' w', OwnI base w' v' (zs ++ ys) → w.grownBy w' v.ownBlock → wpList Try.prog ops Q rest (a.put o.dst v') w') : wpList Try.prog ops Q (o :: rest) a w := by
  obtain ⟨v', w', hrun, h2, h3⟩ := run_appR w o.type base v zs hown A ys c hr hlen hlen2 hbase
  refine wpList_plain hgd fun _ hK => ?_
  unfold Oper.wp execOp
  simp only [ho, resolve, invoke, builtin, Sem.run_bind, Sem.run_pure, Result.andThen_ok, List.map_toArray, List.map_cons, List.map_nil, hs, hx, hrun]
  exact hK _ _ (h v' w' h2 h3)

end Go.Proofs.Ytbghpkdkfbpmeaa
/-
  A text that is put together by a strings.Builder: what its writing leaves as it was, a row of numbers made behind the builder among it.
-/
namespace Go.Proofs.Ytbghpkdkfbpmeaa
open Go.RowKit
set_option maxRecDepth 100000
set_option linter.unusedVariables false

/-- The builder in block b holds these bytes. -/
abbrev Bd (B b : Nat) (l : List UInt8) (w : World) : Prop := Lib.IsBuilder 94 5 B b (Lib.byteCells l) w
/-- All blocks stand as they stood but the builder's and rows of bytes. -/
abbrev Kp (b : Nat) (w w' : World) : Prop := Lib.OthersKept 5 (some b) w w'

theorem infoB : (Try.prog.info? 5).map (fun i => (i.zero, i.size, i.bytes)) = some (some (.int .u8 0), 1, 1) := by kernel_rfl
theorem infoBd : (Try.prog.info? 94).map (fun i => i.size) = some 2 := by kernel_rfl
theorem liesBd : liesAt Try.prog Try.prog.depth 94 (2 / Try.prog.cellsOf 94) 0 94 1 = true := by kernel_rfl

theorem to_uns {P : Program} {src dst t : TypeId} {j : TypeInfo} (b : Nat) (w : World) (hs : P.underlying src = some (.pointer t)) (hd : P.underlying dst = some .unsafePointer) (ht : P.info? t = some j) (hj : j.size = 2) (hsh : w.shape? b = some (t, 2)) :
    (convert src dst (.pointer (some ⟨b, 0, none⟩))).run P w = .ok (.pointer (some ⟨b, 0, none⟩)) w := Lib.run_to_unsafe w ⟨b, 0, none⟩ hs hd ht (by rw [hj]; decide) hsh (Nat.zero_lt_succ 1)
theorem from_uns {P : Program} {src dst t : TypeId} {j : TypeInfo} (b : Nat) (w : World) (hs : P.underlying src = some .unsafePointer) (hd : P.underlying dst = some (.pointer t)) (ht : P.info? t = some j) (hsh : w.shape? b = some (t, 2)) (hl : liesAt P P.depth t (2 / P.cellsOf t) 0 t 1 = true) :
    (convert src dst (.pointer (some ⟨b, 0, none⟩))).run P w = .ok (.pointer (some ⟨b, 0, none⟩)) w := Lib.run_from_unsafe w ⟨b, 0, none⟩ hs hd ht hsh hl

set_option maxHeartbeats 1000000 in
set_option maxRecDepth 100000 in
theorem bcheck_used (b : Nat) (w : World) (h0 : w.cell? ⟨b, 0, none⟩ = some (.pointer (some ⟨b, 0, none⟩))) :
    Calls Try.prog 71 #[.pointer (some ⟨b, 0, none⟩)] w fun e w' => e = .returned (.tuple #[]) ∧ w' = w := by
  obtain ⟨j, hj, _⟩ := Option.map_eq_some_iff.1 infoBd
  go_enter Try.func71, Try.ntmps71
  go_wp2
  rw [Lib.run_neq_ptr_same w _ Try.underlying92 hj]
  go_wp2
  go_end0
  exact ⟨rfl, rfl⟩

set_option maxHeartbeats 1000000 in
set_option maxRecDepth 100000 in
theorem bcheck_fresh (b : Nat) (w : World) (h0 : w.cell? ⟨b, 0, none⟩ = some (.pointer none)) (hsh : w.shape? b = some (94, 2)) (hfz : w.frozen? ⟨b, 0, none⟩ = false) :
    Calls Try.prog 71 #[.pointer (some ⟨b, 0, none⟩)] w fun e w' => e = .returned (.tuple #[]) ∧ w' = w.setCell ⟨b, 0, none⟩ (.pointer (some ⟨b, 0, none⟩)) := by
  obtain ⟨j, hj, hs⟩ := Option.map_eq_some_iff.1 infoBd
  have hto := to_uns b w Try.underlying92 Try.underlying128 hj hs hsh
  have hfrom := from_uns b w Try.underlying128 Try.underlying92 hj hsh liesBd
  go_enter Try.func71, Try.ntmps71
  go_wp2
  rw [run_callFunc_extern Try.func85 (by kernel_rfl) (by kernel_rfl) (by kernel_rfl) (e := Extern.AbiNoEscape.same) (by kernel_rfl), Lib.run_noEscape]
  simp only [Result.andThen]
  rw [Oper.upon_value]
  go_wp2
  go_end0
  exact ⟨rfl, rfl⟩

theorem bcheck_any (B b : Nat) (bs : List Value) (w : World) (h : Lib.IsBuilder 94 5 B b bs w) :
    Calls Try.prog 71 #[.pointer (some ⟨b, 0, none⟩)] w fun e w' => e = .returned (.tuple #[]) ∧ Lib.BuilderAt 94 5 B b (.pointer (some ⟨b, 0, none⟩)) bs w' ∧ Below B w w' ∧ Kp b w w' := by
  rcases h with h | h
  · refine (bcheck_fresh b w h.cell0 h.shape h.frozen0).mono ?_
    rintro e w' ⟨rfl, rfl⟩
    exact ⟨rfl, h.used _, (Below.refl B w).setCell (p := ⟨b, 0, none⟩) h.1 _, (Lib.OthersKept.refl _ _ w).setCell ⟨b, 0, none⟩ rfl _⟩
  · refine (bcheck_used b w h.cell0).mono ?_
    rintro e w' ⟨rfl, rfl⟩
    exact ⟨rfl, h, Below.refl B _, Lib.OthersKept.refl _ _ _⟩

theorem own_kind {w : World} {B : Nat} {e : TypeId} {v : Value} {n : Nat} {xs : List Value} (h : w.ownsRow B e 1 v n xs) : ∀ g, v.ownBlock = some g → ∃ c fz, w.heap[g]? = some (.cells c e fz) := by
  intro g hg
  rcases h.2 with ⟨rfl, _⟩ | ⟨g', cap, cur, rfl, _, hgg, _⟩
  · cases hg
  · injection hg with hg
    subst hg
    exact ⟨cur, _, hgg⟩

theorem strCells_mk (l : List UInt8) : Lib.strCells ⟨l.toArray⟩ = Lib.byteCells l := by
  unfold Lib.strCells Lib.byteCells
  simp

theorem byteCells_app (l m : List UInt8) : Lib.byteCells l ++ Lib.byteCells m = Lib.byteCells (l ++ m) := by
  unfold Lib.byteCells
  simp

set_option maxHeartbeats 2000000 in
set_option maxRecDepth 100000 in
theorem bwrite_any (B b : Nat) (l m : List UInt8) (w : World) (h : Bd B b l w) (hlen : l.length + m.length ≤ 1048576) (hBw : B ≤ w.heap.size) :
    Calls Try.prog 56 #[.pointer (some ⟨b, 0, none⟩), .string ⟨m.toArray⟩] w fun e w' => (∃ n, e = .returned (.tuple #[.int .i64 n, .nilIface])) ∧ Bd B b (l ++ m) w' ∧ Below B w w' ∧ Kp b w w' := by
  obtain ⟨i, hi, hz0, hz1, hz2⟩ := info_parts infoB
  have hbl : (Lib.byteCells l).length = l.length := Lib.byteCells_length l
  have hsz : (⟨m.toArray⟩ : ByteArray).size = m.length := by simp [ByteArray.size]
  go_enter Try.func56, Try.ntmps56
  go_wp2_with fail
  refine (bcheck_any B b _ _ h).mono ?_
  rintro e w1 ⟨rfl, h1, hb1, hk1⟩
  obtain ⟨hB, v, hbk, hown, hne⟩ := h1
  have c0 : w1.cell? ⟨b, 0, none⟩ = some (.pointer (some ⟨b, 0, none⟩)) := by rw [Lib.cell_of_heap hbk]; rfl
  have c1 : w1.cell? ⟨b, 1, none⟩ = some v := by rw [Lib.cell_of_heap hbk]; rfl
  have hlt : b < w1.heap.size := (Array.getElem?_eq_some_iff.1 hbk).1
  have hs1 := hb1.size
  go_wp2_with (at_builtin; refine Lib.wpList_append_own_string _ rfl _ _ 38 9 rfl B 5 i Try.underlying38 Try.underlying9 hi hz0 hz1 hz2 _ _ _ rfl hown ⟨m.toArray⟩ rfl ?c3 ?c4 ?c5 ?_)
  case c3 => rw [hsz, hbl]; unfold maxLen; omega
  case c4 => rw [hsz, hbl]; omega
  case c5 => omega
  intro v' w2 hown' hgrow _
  have hb2 : w2.heap[b]? = some (.cells #[.pointer (some ⟨b, 0, none⟩), v] 94 (0, 0)) := (hgrow.block b hlt (fun e => hne e.symm)).trans hbk
  have d0 : w2.cell? ⟨b, 0, none⟩ = some (.pointer (some ⟨b, 0, none⟩)) := by rw [Lib.cell_of_heap hb2]; rfl
  have d1 : w2.cell? ⟨b, 1, none⟩ = some v := by rw [Lib.cell_of_heap hb2]; rfl
  have f1 : w2.frozen? ⟨b, 1, none⟩ = false := Lib.frozen_of_heap hb2 1
  obtain ⟨ao, n', cap, rfl⟩ : ∃ ao n' cap, v' = .slice ao n' cap := by
    rcases hown'.2 with ⟨hv, _⟩ | ⟨g, cap, cur, hv, _⟩
    · exact ⟨_, _, _, hv⟩
    · exact ⟨_, _, _, hv⟩
  go_wp2
  go_ret2
  refine ⟨⟨_, rfl⟩, .inr ?_, ?_, ?_⟩
  · refine Lib.BuilderAt.put hB hb2 (bs' := Lib.byteCells (l ++ m)) ?_ (by decide)
    have e : (Lib.byteCells (l ++ m)).length = l.length + m.length := by simp [Lib.byteCells]
    rw [e, ← byteCells_app, ← strCells_mk m]
    exact hown'
  · exact (below_grown hb1 (by omega) hgrow (fun k hk => (hown.lt k hk).1)).setCell (p := ⟨b, 1, none⟩) hB _
  · exact (hk1.grown hgrow (own_kind hown)).setCell ⟨b, 1, none⟩ rfl _

theorem bstring_any (B b : Nat) (l : List UInt8) (w : World) (h : Bd B b l w) (hBw : B ≤ w.heap.size) :
    Calls Try.prog 60 #[.pointer (some ⟨b, 0, none⟩)] w fun e w' => e = .returned (.string ⟨l.toArray⟩) ∧ Below B w w' := Try.Builder_String_any B b l w h hBw

theorem Bd.new (w : World) : Bd w.heap.size w.heap.size [] (w.alloc (.cells #[.pointer none, .slice none 0 0] 94)) := Lib.fresh_isBuilder _ _ w

/-- A builder where calls made memory alone. -/
theorem Bd.later {B b : Nat} {l : List UInt8} {w w' : World} (h : Bd B b l w) (hb : Below w.heap.size w w') : Bd B b l w' := by
  have go : ∀ p, Lib.BuilderAt 94 5 B b p (Lib.byteCells l) w → Lib.BuilderAt 94 5 B b p (Lib.byteCells l) w' := by
    rintro p ⟨hB, v, hbk, hown, hne⟩
    refine ⟨hB, v, (hb.block b (Array.getElem?_eq_some_iff.1 hbk).1).trans hbk, ?_, hne⟩
    refine World.ownsRow.kept (row := none) hown ⟨hb.os, hb.tape, hb.output, hb.size, fun k hk _ => hb.block k hk⟩ ?_
    cases hv : v.ownBlock
    · exact .inl rfl
    · exact .inr (by simp)
  rcases h with h | h
  · exact .inl (go _ h)
  · exact .inr (go _ h)

/-- A row of numbers, where a builder was written. -/
theorem OwnI.kp {base : Nat} {w w' : World} {v : Value} {zs : List Int} {b : Nat} (h : OwnI base w v zs) (hk : Kp b w w') (hb : ∃ cs, w.heap[b]? = some (.cells cs 94 (0, 0))) : OwnI base w' v zs := by
  refine ⟨h.1, ?_⟩
  rcases h.2 with h | ⟨g, cap, cur, h1, h2, h3, h4⟩
  · exact .inl h
  · refine .inr ⟨g, cap, cur, h1, h2, hk g _ h3 ?_ ?_, h4⟩
    · rintro e
      injection e with e
      subst e
      obtain ⟨cs, hb⟩ := hb
      rw [h3] at hb
      injection hb with hb
      injection hb with _ h5
      exact absurd h5 (by decide)
    · intro c fz e
      injection e with _ h5
      exact absurd h5 (by decide)

theorem Bd.box {B b : Nat} {l : List UInt8} {w : World} (h : Bd B b l w) : ∃ cs, w.heap[b]? = some (.cells cs 94 (0, 0)) := by
  rcases h with ⟨_, v, hb, _⟩ | ⟨_, v, hb, _⟩
  · exact ⟨_, hb⟩
  · exact ⟨_, hb⟩

end Go.Proofs.Ytbghpkdkfbpmeaa

/-
  plaitinglaw5's Make.
-/
import Derived.Test.YtbghpkdkfbpmeaaGreatK6
import Derived.Test.YtbghpkdkfbpmeaaGreatK1
namespace Go.Proofs.YtbghpkdkfbpmeaaGreat
open Go.RowKit Plait
set_option maxRecDepth 100000
set_option linter.unusedVariables false

/-- What a call answers that makes a frame. -/
def FrRet (f : Fr) (w : World) (e : Ending) (w' : World) : Prop :=
  ∃ (a : Option Addr) (cap : Nat), e = .returned (.agg #[.int .i64 f.K, .int .i64 f.R, .int .i64 f.S, .int .i64 f.P.K, .int .i64 f.P.V, .slice a f.E.length cap]) ∧ RowT w' a f.E ∧ (∀ x, a = some x → w.heap.size ≤ x.block) ∧ Below w.heap.size w w'

theorem from_drew {w wl : World} (hb : Below w.drew.heap.size w.drew wl) : Below w.heap.size w wl := (Below.refl _ w).drew.trans hb

theorem OwnT.weak {base base' : Nat} {w : World} {v : Value} {ts : List It} (h : OwnT base w v ts) (hb : base' ≤ base) : OwnT base' w v ts := by
  refine ⟨h.1, ?_⟩
  rcases h.2 with h | ⟨g, cap, cur, h1, h2, h3⟩
  · exact .inl h
  · exact .inr ⟨g, cap, cur, h1, by omega, h3⟩

/-- The same, and that the row is the call's own. -/
def FrRet2 (f : Fr) (w : World) (e : Ending) (w' : World) : Prop :=
  ∃ (a : Option Addr) (cap : Nat), e = .returned (.agg #[.int .i64 f.K, .int .i64 f.R, .int .i64 f.S, .int .i64 f.P.K, .int .i64 f.P.V, .slice a f.E.length cap]) ∧ RowT w' a f.E ∧ (∀ x, a = some x → w.heap.size ≤ x.block) ∧ OwnT w.heap.size w' (.slice a f.E.length cap) f.E ∧ Below w.heap.size w w'

/-- Make's last step: g is laid into the result's place. -/
theorem make5_end (f : Fr) (w wr : World) (av : Option Addr) (cv : Nat) (hB : Below w.heap.size w wr) (k2 : Blk wr (w.heap.size + 2) 32 zeroBox)
    (hown : OwnT (w.heap.size + 3) wr (.slice av f.E.length cv) f.E) (hl : f.E.length ≤ 1000000) (hz : ∀ t ∈ f.E, inI t.K ∧ inI t.V) {f' : Fr} (hp : f' = f) {a : Act}
    (h6 : a.tmps[6]? = some (.pointer (some ⟨w.heap.size + 2, 0, none⟩)) := by rfl) (hd : a.defers = [] := by rfl) :
    bodyPost Tryz.prog Tryz.f14 (FrRet2 f' w) Exit.ret a
      ((((((wr.setCell ⟨w.heap.size + 2, 0, none⟩ (.int .i64 f.K)).setCell ⟨w.heap.size + 2, 1, none⟩ (.int .i64 f.R)).setCell ⟨w.heap.size + 2, 2, none⟩ (.int .i64 f.S)).setCell
        ⟨w.heap.size + 2, 3, none⟩ (.int .i64 f.P.K)).setCell ⟨w.heap.size + 2, 4, none⟩ (.int .i64 f.P.V)).setCell ⟨w.heap.size + 2, 5, none⟩ (.slice av f.E.length cv)) := by
  subst hp
  unfold zeroBox at k2
  have kk := ((((((k2.set 0 (.int .i64 f'.K)).set 1 (.int .i64 f'.R)).set 2 (.int .i64 f'.S)).set 3 (.int .i64 f'.P.K)).set 4 (.int .i64 f'.P.V)).set 5 (.slice av f'.E.length cv))
  have hb2 := (((((hB.setCell (p := ⟨w.heap.size + 2, 0, none⟩) (by simp) (.int .i64 f'.K)).setCell (p := ⟨w.heap.size + 2, 1, none⟩) (by simp) (.int .i64 f'.R)).setCell (p := ⟨w.heap.size + 2, 2, none⟩) (by simp) (.int .i64 f'.S)).setCell
    (p := ⟨w.heap.size + 2, 3, none⟩) (by simp) (.int .i64 f'.P.K)).setCell (p := ⟨w.heap.size + 2, 4, none⟩) (by simp) (.int .i64 f'.P.V)).setCell (p := ⟨w.heap.size + 2, 5, none⟩) (by simp) (.slice av f'.E.length cv)
  have ho := (((((hown.far ⟨w.heap.size + 2, 0, none⟩ (.int .i64 f'.K) (by simp)).far ⟨w.heap.size + 2, 1, none⟩ (.int .i64 f'.R) (by simp)).far ⟨w.heap.size + 2, 2, none⟩ (.int .i64 f'.S) (by simp)).far
    ⟨w.heap.size + 2, 3, none⟩ (.int .i64 f'.P.K) (by simp)).far ⟨w.heap.size + 2, 4, none⟩ (.int .i64 f'.P.V) (by simp)).far ⟨w.heap.size + 2, 5, none⟩ (.slice av f'.E.length cv) (by simp)
  generalize (((((wr.setCell _ _).setCell _ _).setCell _ _).setCell _ _).setCell _ _).setCell _ _ = W at *
  have q := kk.at
  simp at q
  refine bodyPost_ret (v := .agg #[.int .i64 f'.K, .int .i64 f'.R, .int .i64 f'.S, .int .i64 f'.P.K, .int .i64 f'.P.V, .slice av f'.E.length cv]) (by simp [results, Tryz.results14, go_sem, h6, q]) hd ⟨av, cv, rfl, ho.row (by omega) hz, ?_, ho.weak (by omega), hb2⟩
  intro x hx
  have := (ho.lt x.block (by rw [hx]; rfl)).1
  omega

/-- What holds on in Make: the boxes of c, f and the result. -/
def HeldM (c : Cf) (ca : Option Addr) (cc : Nat) (f : Fr) (fa : Option Addr) (fc : Nat) (w W : World) : Prop :=
  Below w.heap.size w W ∧ Blk W w.heap.size 24 (confBox c ca cc) ∧ Blk W (w.heap.size + 1) 32 (frBox f fa fc) ∧ Blk W (w.heap.size + 2) 32 zeroBox
theorem HeldM.next {c : Cf} {ca : Option Addr} {cc : Nat} {f : Fr} {fa : Option Addr} {fc : Nat} {w W W' : World} (h : HeldM c ca cc f fa fc w W) (hb : Below W.heap.size W W') : HeldM c ca cc f fa fc w W' :=
  ⟨h.1.trans (hb.mono h.1.size), h.2.1.later hb, h.2.2.1.later hb, h.2.2.2.later hb⟩
theorem HeldM.set {c : Cf} {ca : Option Addr} {cc : Nat} {f : Fr} {fa : Option Addr} {fc : Nat} {w W : World} (h : HeldM c ca cc f fa fc w W) {g : Nat} (hg : w.heap.size + 2 < g) (k : Nat) (u : Value) : HeldM c ca cc f fa fc w (W.setCell ⟨g, k, none⟩ u) :=
  ⟨h.1.setCell (by show w.heap.size ≤ g; omega) u, h.2.1.far (by show w.heap.size ≠ g; omega) u, h.2.2.1.far (by show w.heap.size + 1 ≠ g; omega) u, h.2.2.2.far (by show w.heap.size + 2 ≠ g; omega) u⟩
theorem HeldM.grown {c : Cf} {ca : Option Addr} {cc : Nat} {f : Fr} {fa : Option Addr} {fc : Nat} {w W W' : World} {row : Option Nat} (h : HeldM c ca cc f fa fc w W) (hg : W.grownBy W' row) (hr : ∀ g, row = some g → w.heap.size + 2 < g) : HeldM c ca cc f fa fc w W' :=
  ⟨below_grown h.1 h.1.size hg (fun g e => by have := hr g e; omega), h.2.1.grown hg (fun e => by have := hr _ e.symm; omega), h.2.2.1.grown hg (fun e => by have := hr _ e.symm; omega), h.2.2.2.grown hg (fun e => by have := hr _ e.symm; omega)⟩

/-- Make's variable g, boxed at g. -/
def MakeV (K R S PK PV : Int) (v : Value) : Array Value := #[.int .i64 K, .int .i64 R, .int .i64 S, .int .i64 PK, .int .i64 PV, v]

theorem makeV_set {wm : World} {g : Nat} (K R S : Int) (hx : Blk wm g 32 zeroBox) :
    Blk ((((((wm.setCell ⟨g, 0, none⟩ (.int .i64 K)).setCell ⟨g, 1, none⟩ (.int .i64 R)).setCell ⟨g, 2, none⟩ (.int .i64 S)).setCell ⟨g, 3, none⟩ (.int .i64 0)).setCell ⟨g, 4, none⟩ (.int .i64 0)).setCell ⟨g, 5, none⟩ (.slice none 0 0)) g 32 (MakeV K R S 0 0 (.slice none 0 0)) :=
  ((((((hx.set 0 (.int .i64 K)).set 1 (.int .i64 R)).set 2 (.int .i64 S)).set 3 (.int .i64 0)).set 4 (.int .i64 0)).set 5 (.slice none 0 0))

theorem sm_of {c : Cf} {ca : Option Addr} {cc : Nat} {f : Fr} {fa : Option Addr} {fc : Nat} {w W : World} (h : HeldM c ca cc f fa fc w W) : W.cell? ⟨w.heap.size + 1, 0, none⟩ = some (.int .i64 f.K) ∧ W.cell? ⟨w.heap.size + 1, 1, none⟩ = some (.int .i64 f.R) ∧ W.cell? ⟨w.heap.size + 1, 2, none⟩ = some (.int .i64 f.S) ∧ W.cell? ⟨w.heap.size, 0, none⟩ = some (.int .i64 c.N) ∧ W.cell? ⟨w.heap.size, 1, none⟩ = some (.int .i64 c.Pi) ∧ W.cell? ⟨w.heap.size, 2, none⟩ = some (.int .i64 c.E) ∧ W.cell? ⟨w.heap.size, 3, none⟩ = some (.int .i64 c.G) ∧ W.cell? ⟨w.heap.size, 4, none⟩ = some (.int .i64 c.F) ∧ W.cell? ⟨w.heap.size, 5, none⟩ = some (.slice ca c.P.length cc) :=
  ⟨by rw [h.2.2.1.at]; rfl, by rw [h.2.2.1.at]; rfl, by rw [h.2.2.1.at]; rfl, by rw [h.2.1.at]; rfl, by rw [h.2.1.at]; rfl, by rw [h.2.1.at]; rfl, by rw [h.2.1.at]; rfl, by rw [h.2.1.at]; rfl, by rw [h.2.1.at]; rfl⟩
theorem sm_next {c : Cf} {ca : Option Addr} {cc : Nat} {f : Fr} {w W W' : World} (h : W.cell? ⟨w.heap.size + 1, 0, none⟩ = some (.int .i64 f.K) ∧ W.cell? ⟨w.heap.size + 1, 1, none⟩ = some (.int .i64 f.R) ∧ W.cell? ⟨w.heap.size + 1, 2, none⟩ = some (.int .i64 f.S) ∧ W.cell? ⟨w.heap.size, 0, none⟩ = some (.int .i64 c.N) ∧ W.cell? ⟨w.heap.size, 1, none⟩ = some (.int .i64 c.Pi) ∧ W.cell? ⟨w.heap.size, 2, none⟩ = some (.int .i64 c.E) ∧ W.cell? ⟨w.heap.size, 3, none⟩ = some (.int .i64 c.G) ∧ W.cell? ⟨w.heap.size, 4, none⟩ = some (.int .i64 c.F) ∧ W.cell? ⟨w.heap.size, 5, none⟩ = some (.slice ca c.P.length cc)) (hb : Below W.heap.size W W') : W'.cell? ⟨w.heap.size + 1, 0, none⟩ = some (.int .i64 f.K) ∧ W'.cell? ⟨w.heap.size + 1, 1, none⟩ = some (.int .i64 f.R) ∧ W'.cell? ⟨w.heap.size + 1, 2, none⟩ = some (.int .i64 f.S) ∧ W'.cell? ⟨w.heap.size, 0, none⟩ = some (.int .i64 c.N) ∧ W'.cell? ⟨w.heap.size, 1, none⟩ = some (.int .i64 c.Pi) ∧ W'.cell? ⟨w.heap.size, 2, none⟩ = some (.int .i64 c.E) ∧ W'.cell? ⟨w.heap.size, 3, none⟩ = some (.int .i64 c.G) ∧ W'.cell? ⟨w.heap.size, 4, none⟩ = some (.int .i64 c.F) ∧ W'.cell? ⟨w.heap.size, 5, none⟩ = some (.slice ca c.P.length cc) := by
  obtain ⟨h0, h1, h2, h3, h4, h5, h6, h7, h8⟩ := h
  have n := fun {p : Addr} {v : Value} (e : W.cell? p = some v) => (hb.cell (p := p) (World.block_lt_of_cell? W p e)).trans e
  exact ⟨n h0, n h1, n h2, n h3, n h4, n h5, n h6, n h7, n h8⟩
theorem sm_set {c : Cf} {ca : Option Addr} {cc : Nat} {f : Fr} {w W : World} (h : W.cell? ⟨w.heap.size + 1, 0, none⟩ = some (.int .i64 f.K) ∧ W.cell? ⟨w.heap.size + 1, 1, none⟩ = some (.int .i64 f.R) ∧ W.cell? ⟨w.heap.size + 1, 2, none⟩ = some (.int .i64 f.S) ∧ W.cell? ⟨w.heap.size, 0, none⟩ = some (.int .i64 c.N) ∧ W.cell? ⟨w.heap.size, 1, none⟩ = some (.int .i64 c.Pi) ∧ W.cell? ⟨w.heap.size, 2, none⟩ = some (.int .i64 c.E) ∧ W.cell? ⟨w.heap.size, 3, none⟩ = some (.int .i64 c.G) ∧ W.cell? ⟨w.heap.size, 4, none⟩ = some (.int .i64 c.F) ∧ W.cell? ⟨w.heap.size, 5, none⟩ = some (.slice ca c.P.length cc)) {g : Nat} (hg : w.heap.size + 2 < g) (k : Nat) (u : Value) : (W.setCell ⟨g, k, none⟩ u).cell? ⟨w.heap.size + 1, 0, none⟩ = some (.int .i64 f.K) ∧ (W.setCell ⟨g, k, none⟩ u).cell? ⟨w.heap.size + 1, 1, none⟩ = some (.int .i64 f.R) ∧ (W.setCell ⟨g, k, none⟩ u).cell? ⟨w.heap.size + 1, 2, none⟩ = some (.int .i64 f.S) ∧ (W.setCell ⟨g, k, none⟩ u).cell? ⟨w.heap.size, 0, none⟩ = some (.int .i64 c.N) ∧ (W.setCell ⟨g, k, none⟩ u).cell? ⟨w.heap.size, 1, none⟩ = some (.int .i64 c.Pi) ∧ (W.setCell ⟨g, k, none⟩ u).cell? ⟨w.heap.size, 2, none⟩ = some (.int .i64 c.E) ∧ (W.setCell ⟨g, k, none⟩ u).cell? ⟨w.heap.size, 3, none⟩ = some (.int .i64 c.G) ∧ (W.setCell ⟨g, k, none⟩ u).cell? ⟨w.heap.size, 4, none⟩ = some (.int .i64 c.F) ∧ (W.setCell ⟨g, k, none⟩ u).cell? ⟨w.heap.size, 5, none⟩ = some (.slice ca c.P.length cc) := by
  obtain ⟨h0, h1, h2, h3, h4, h5, h6, h7, h8⟩ := h
  have n := fun {b o : Nat} {v : Value} (hb : b < g) (e : W.cell? ⟨b, o, none⟩ = some v) => (World.cell?_setCell_other W ⟨g, k, none⟩ ⟨b, o, none⟩ u (fun e' => by injection e' with e1; omega)).trans e
  exact ⟨n (by omega) h0, n (by omega) h1, n (by omega) h2, n (by omega) h3, n (by omega) h4, n (by omega) h5, n (by omega) h6, n (by omega) h7, n (by omega) h8⟩

attribute [local irreducible] World.alloc World.drew World.setCell

/-- The loop over the items. -/
def MakeAt (c : Cf) (ca : Option Addr) (cc : Nat) (f : Fr) (fa : Option Addr) (fc : Nat) (ns : List Int) (R s PK PV : Int) (n : Nat) (w : World) (g : Nat) (i : Value) (wx : World) : Prop :=
  ∃ (k : Nat) (v : Value), i = .int .i64 k ∧ k ≤ n ∧ HeldM c ca cc f fa fc w wx ∧ Blk wx g 32 (MakeV 3 R s PK PV v) ∧ OwnT (g + 1) wx v (makeE ns k)

theorem quo_le (y : Int) (k : Nat) (hy : 0 ≤ y) : 0 ≤ y / (1 + (k : Int)) ∧ (k = 0 → y / (1 + (k : Int)) = y) ∧ (0 < k → 2 * (y / (1 + (k : Int))) ≤ y) := by
  have a1 : 0 ≤ y / (1 + (k : Int)) := Int.ediv_nonneg hy (by omega)
  refine ⟨a1, fun e => by subst e; simp, fun h => ?_⟩
  have a2 : y / (1 + (k : Int)) * (1 + (k : Int)) ≤ y := Int.ediv_mul_le _ (by omega)
  have a3 : y / (1 + (k : Int)) * 2 ≤ y / (1 + (k : Int)) * (1 + (k : Int)) := Int.mul_le_mul_of_nonneg_left (by omega) a1
  omega

theorem tdiv_in (x : Int) (k : Nat) (hk : k ≤ 100) (h : inI x) : inI (x.tdiv (1 + (k : Int)) + k) ∧ inI (x.tdiv (1 + (k : Int))) := by
  obtain ⟨h1, h2⟩ := h
  unfold inI
  rcases Int.le_total 0 x with h | h
  · rw [Int.tdiv_eq_ediv_of_nonneg h]
    obtain ⟨a1, a2, a3⟩ := quo_le x k h
    generalize x / (1 + (k : Int)) = q at *
    rcases Nat.eq_zero_or_pos k with e | e
    · have := a2 e; omega
    · have := a3 e; omega
  · have e : x.tdiv (1 + (k : Int)) = -((-x) / (1 + (k : Int))) := by
      have := Int.neg_tdiv (-x) (1 + (k : Int))
      rw [show -(-x) = x by omega] at this
      rw [this, Int.tdiv_eq_ediv_of_nonneg (by omega)]
    rw [e]
    obtain ⟨a1, a2, a3⟩ := quo_le (-x) k (by omega)
    generalize (-x) / (1 + (k : Int)) = q at *
    rcases Nat.eq_zero_or_pos k with e | e
    · have := a2 e; omega
    · have := a3 e; omega

theorem makeE_in (ns : List Int) (k : Nat) : ∀ t ∈ makeE ns k, inI t.K ∧ inI t.V := by
  intro t ht
  have := makeE_all ns k t ht
  unfold itemB at this
  unfold inI
  split at this
  · simp at this; omega
  · split at this
    · simp at this; omega
    · split at this
      · simp at this; omega
      · simp at this

set_option maxHeartbeats 6400000 in
theorem make5_any2 (c : Cf) (ca : Option Addr) (cc : Nat) (f : Fr) (fa : Option Addr) (fc : Nat) (na : Option Addr) (ns : List Int) (nc : Nat) (w : World) (hc : c.Ok) (hns : Row w na ns) (iK : inI f.K) (iR : inI f.R) (iS : inI f.S) (iV : inI f.P.V) :
    Calls Tryz.prog 14 #[.agg #[.int .i64 c.N, .int .i64 c.Pi, .int .i64 c.E, .int .i64 c.G, .int .i64 c.F, .slice ca c.P.length cc], .agg #[.int .i64 f.K, .int .i64 f.R, .int .i64 f.S, .int .i64 f.P.K, .int .i64 f.P.V, .slice fa f.E.length fc], .slice na ns.length nc] w (FrRet2 (makeF c f ns) w) := by
  have n6 := hc.n6; have n12 := hc.n12; have n3 := hc.len
  have hsl : 6 ≤ slotsI c ∧ slotsI c ≤ 15 := by unfold slotsI; omega
  obtain ⟨sl0, sl1⟩ := hsl
  obtain ⟨wn, hwn⟩ : ∃ wn, wn = ((w.alloc (.cells #[.int .i64 c.N, .int .i64 c.Pi, .int .i64 c.E, .int .i64 c.G, .int .i64 c.F, .slice ca c.P.length cc] 24)).alloc (.cells #[.int .i64 f.K, .int .i64 f.R, .int .i64 f.S, .int .i64 f.P.K, .int .i64 f.P.V, .slice fa f.E.length fc] 32)).alloc (.cells zeroBox 32) := ⟨_, rfl⟩
  have hH : HeldM c ca cc f fa fc w wn := by
    rw [hwn]
    exact ⟨((alloc_below w _).alloc (by simp) _).alloc (by simp; omega) _, ((Blk.new w _ _).alloc _).alloc _, (Blk.newAt _ _ (by simp)).alloc _, Blk.newAt _ _ (by simp)⟩
  have hwn' := hwn
  unfold zeroBox at hwn'
  go_enter Tryz.func14, Tryz.ntmps14
  go_upto_region 1 with fail
  rw [← hwn']
  clear hwn hwn'
  go_cut [7] (fun s7 wx => ∃ g, s7 = .pointer (some ⟨g, 0, none⟩) ∧ HeldM c ca cc f fa fc w wx ∧ w.heap.size + 2 < g ∧ Blk wx g 32 (MakeV (1 + f.K % 3) (f.R % 65536) (f.S % slotsI c) 0 0 (.slice none 0 0)))
  case first =>
    have hg := hH.2.2.2.lt
    have HS := Lib.hid (fun W => rslots_any c ca cc W hc)
    have z1 : IntKind.i64.wrap (1 + f.K % 3) = 1 + f.K % 3 := wrap_in _ (by omega) (by omega)
    generalize slotsI c = sl at *
    go_region_held3 (fun W => W.cell? ⟨w.heap.size + 1, 0, none⟩ = some (.int .i64 f.K) ∧ W.cell? ⟨w.heap.size + 1, 1, none⟩ = some (.int .i64 f.R) ∧ W.cell? ⟨w.heap.size + 1, 2, none⟩ = some (.int .i64 f.S) ∧ W.cell? ⟨w.heap.size, 0, none⟩ = some (.int .i64 c.N) ∧ W.cell? ⟨w.heap.size, 1, none⟩ = some (.int .i64 c.Pi) ∧ W.cell? ⟨w.heap.size, 2, none⟩ = some (.int .i64 c.E) ∧ W.cell? ⟨w.heap.size, 3, none⟩ = some (.int .i64 c.G) ∧ W.cell? ⟨w.heap.size, 4, none⟩ = some (.int .i64 c.F) ∧ W.cell? ⟨w.heap.size, 5, none⟩ = some (.slice ca c.P.length cc))
      (first | assumption | exact sm_of (hH.next (Below.refl _ _).drew) | exact sm_of hM | exact sm_of (hM.next (alloc_below _ _)) | exact sm_of ((hH.next (alloc_below wn _)).next (Below.refl _ _).drew) | exact sm_of ((((((hM.set hg 0 _).set hg 1 _).set hg 2 _).set hg 3 _).set hg 4 _).set hg 5 _))
      (first
      | (go_at_call 34; refine (within5_any _ _ _ ?_ ?_).mono ?_; omega; omega; rintro e wl ⟨rfl, rfl⟩)
      | (go_at_call 10; refine (HS.out _).mono ?_; rintro e wm ⟨rfl, hbm⟩; (try have hx := (Blk.drew1 (Blk.new wn 32 zeroBox)).later hbm); (try have hxq := hx.at); (try have hxf := hx.frozen); (try unfold zeroBox at hxq); (first | (have hM := (hH.next (Below.refl _ _).drew).next hbm) | (have hM := ((hH.next (alloc_below wn _)).next (Below.refl _ _).drew).next hbm))))
    all_goals go_wp2_with fail
    all_goals go_meet
    all_goals first
      | exact ⟨_, rfl, hM.next (alloc_below _ _), hM.2.2.2.lt, Blk.new wm _ _⟩
      | exact ⟨_, rfl, (((((hM.set hg 0 _).set hg 1 _).set hg 2 _).set hg 3 _).set hg 4 _).set hg 5 _, hg, makeV_set _ _ _ hx⟩
  case rest =>
    obtain ⟨g, rfl, hM, hgt, hg⟩ := hcut
    clear hH
    have s0 : 0 ≤ f.S % slotsI c := Int.emod_nonneg _ (by omega)
    have s1 : f.S % slotsI c < slotsI c := Int.emod_lt_of_pos _ (by omega)
    have HKd := Lib.hid (show makeK c f = if c.N ≤ f.S % slotsI c then 3 else 1 + f.K % 3 from rfl)
    have HFd := Lib.hid (show makeF c f ns = if makeK c f = 3 then ⟨3, f.R % 65536, f.S % slotsI c, itemOf f.P.V true, makeE ns (if f.S % slotsI c < c.N then (slotsI c).toNat else 0)⟩ else ⟨makeK c f, f.R % 65536, f.S % slotsI c, ⟨0, 0⟩, []⟩ from rfl)
    generalize f.S % slotsI c = s at *
    generalize f.R % 65536 = R at *
    have c0 := hM.2.1.at
    unfold confBox at c0
    have g0 := hg.at
    unfold MakeV at g0
    have gf := hg.frozen
    go_upto_if 27 with fail
    go_cut [] (fun wx => HeldM c ca cc f fa fc w wx ∧ Blk wx g 32 (MakeV (makeK c f) R s 0 0 (.slice none 0 0)))
    case first =>
      by_cases hn : c.N ≤ s
      · have d1 : decide (c.N ≤ s) = true := by simpa using hn
        rw [if_pos hn] at HKd
        go_wp2_with fail
        go_meet
        exact ⟨hM.set hgt 0 _, by rw [HKd.out]; exact hg.set 0 _⟩
      · have d1 : decide (c.N ≤ s) = false := by simpa using hn
        rw [if_neg hn] at HKd
        go_wp2_with fail
        go_meet
        exact ⟨hM, by rw [HKd.out]; exact hg⟩
    case rest =>
      clear hM hg c0 g0 gf
      obtain ⟨hM, hg⟩ := hcut
      have f0 := hM.2.2.1.at
      unfold frBox at f0
      by_cases h3 : makeK c f = 3
      · rw [if_pos h3] at HFd
        rw [h3] at hg
        clear h3 HKd
        have g0 := hg.at
        unfold MakeV at g0
        have gf := hg.frozen
        have HIt := Lib.hid (fun W => item5_any f.P.V true W iV.1 iV.2)
        generalize itemOf f.P.V true = pt at *
        go_wp2_with fail
        refine (HIt.out _).mono ?_
        rintro e wq ⟨rfl, hb⟩
        replace hM := hM.next hb
        replace hg := hg.later hb
        clear hb g0 gf f0 HIt
        have g0 := hg.at
        unfold MakeV at g0
        have gf := hg.frozen
        go_wp2
        go_loopw [8, 9] (fun i _ w' => MakeAt c ca cc f fa fc ns R s pt.K pt.V (if s < c.N then (slotsI c).toNat else 0) w g i w') (fun i _ _ => 15 - (intOf i).toNat)
        case atStart => exact ⟨0, _, rfl, Nat.zero_le _, (hM.set hgt 3 _).set hgt 4 _, (hg.set 3 (.int .i64 pt.K)).set 4 (.int .i64 pt.V), OwnT.nil _ _⟩
        case round =>
          clear hM hg g0 gf
          obtain ⟨k, v, rfl, hk, hM, hg, hown⟩ := hrel
          have c0 := hM.2.1.at
          unfold confBox at c0
          have HSl := Lib.hid (fun W => rslots_any c ca cc W hc)
          by_cases hs : s < c.N
          · rw [if_pos hs] at hk HFd
            have d2 : decide (s < c.N) = true := by simpa using hs
            by_cases hlt : (k : Int) < slotsI c
            · have d1 : decide ((k : Int) < slotsI c) = true := by simpa using hlt
              go_wp2_with fail
              refine (HSl.out _).mono ?_
              rintro e wp ⟨rfl, hb⟩
              replace hM := hM.next hb
              replace hg := hg.later hb
              replace hown := hown.later hb
              clear hb c0
              have c0 := hM.2.1.at
              unfold confBox at c0
              have g0 := hg.at
              unfold MakeV at g0
              have gf := hg.frozen
              have HS := Lib.hid (makeE_succ ns k)
              have hll : (makeE ns k).length ≤ 15 := by rw [makeE_len]; omega
              have hglt := hg.lt
              have hol := hown.lt
              by_cases hn : 0 < ns.length
              · have d3 : decide (0 < ns.length) = true := by simpa using hn
                obtain ⟨j, hj⟩ : ∃ j, k % ns.length = j := ⟨_, rfl⟩
                have hix : j < ns.length := by rw [← hj]; exact Nat.mod_lt _ hn
                obtain ⟨b, off, rfl, hbl, hcell, hz1, hz2⟩ := (hns.later hM.1).get j hix
                have he : echoN ns k = ns[j].tdiv (1 + (k : Int)) + k := by unfold echoN; rw [if_pos hn, hj, List.getD_eq_getElem?_getD, List.getElem?_eq_getElem hix]; rfl
                have hti := tdiv_in ns[j] k (by omega) ⟨hz1, hz2⟩
                rw [he] at HS
                have HI2 := Lib.hid (fun W => item5_any (ns[j].tdiv (1 + (k : Int)) + k) false W hti.1.1 hti.1.2)
                have r1 : (k : Int) % (ns.length : Int) = (j : Int) := by rw [← hj]; omega
                have r2 : (k : Int).tmod (ns.length : Int) = (j : Int) := by rw [Int.tmod_eq_emod_of_nonneg (by omega)]; exact r1
                have w1 : wrap64 (ns[j].tdiv (1 + (k : Int))) = ns[j].tdiv (1 + (k : Int)) := IntWalk.wrap64_in _ hti.2
                have w2 : wrap64 (ns[j].tdiv (1 + (k : Int)) + k) = ns[j].tdiv (1 + (k : Int)) + k := IntWalk.wrap64_in _ hti.1
                have w3 : IntKind.i64.wrap (ns[j].tdiv (1 + (k : Int))) = ns[j].tdiv (1 + (k : Int)) := wrap_in _ hti.2.1 hti.2.2
                have w4 : IntKind.i64.wrap (ns[j].tdiv (1 + (k : Int)) + k) = ns[j].tdiv (1 + (k : Int)) + k := wrap_in _ hti.1.1 hti.1.2
                clear hj
                generalize ns[j] = x at *
                generalize itemOf (x.tdiv (1 + (k : Int)) + k) false = t at *
                generalize makeE ns k = TS at *
                obtain ⟨av, cv, rfl⟩ := hown.form
                clear he
                go_wp2_with fail
                go_region_law (first
                  | (refine step_appT _ (by rfl) (.tmp 68) (.tmp 71) (by rfl) (g + 1) (.slice av TS.length cv) TS (by simp [Act.eval]) (hown.later ((from_drew hb).alloc (from_drew hb).size _)) wl.heap.size 1 t (by simp [Act.eval]) (heap_alloc_new _ _) (by omega) (by have h0 : wp.heap.size ≤ wl.heap.size := (from_drew hb).size; simp; omega) ?_; intro g' cap' w2 h1' h2' h3' h4'; have k3w := (Blk.alloc k3l (.cells #[.int .i64 t.K, .int .i64 t.V] 29)).grown h2' (fun e => by have := (hol _ e.symm).1; omega); have q3w := k3w.at 5; have f3w := k3w.frozen 5; unfold MakeV at q3w)
                  | (go_simp; go_at_call 35; refine (HI2.out _).mono ?_; rintro e wl ⟨rfl, hb⟩; have k3l := hg.later (from_drew hb); have q3l := k3l.at 5; have q3m := fun o : Obj => (k3l.alloc o).at 5; unfold MakeV at q3l q3m))
                all_goals
                  have h0 : wp.heap.size ≤ wl.heap.size := (from_drew hb).size
                  have hMl := (hM.next (from_drew hb)).next (alloc_below wl (.cells #[.int .i64 t.K, .int .i64 t.V] 29))
                  go_wp2
                  go_roundw
                  case rel =>
                    refine ⟨k + 1, _, by go_num, by rw [if_pos hs]; omega, (hMl.grown h2' (fun g' e => by have := (hol g' e).1; omega)).set hgt 5 _, k3w.set 5 _, ?_⟩
                    rw [HS.out]
                    exact h1'.far ⟨g, 5, none⟩ _ (by simp)
                  case measure => simp [intOf]; omega
              · have d3 : decide (0 < ns.length) = false := by simpa using hn
                have he : echoN ns k = (k : Int) := by unfold echoN; rw [if_neg hn]
                rw [he] at HS
                have HI2 := Lib.hid (fun W => item5_any (k : Int) false W (by omega) (by omega))
                generalize itemOf (k : Int) false = t at *
                generalize makeE ns k = TS at *
                obtain ⟨av, cv, rfl⟩ := hown.form
                clear he
                go_wp2_with fail
                go_region_law (first
                  | (refine step_appT _ (by rfl) (.tmp 68) (.tmp 71) (by rfl) (g + 1) (.slice av TS.length cv) TS (by simp [Act.eval]) (hown.later ((from_drew hb).alloc (from_drew hb).size _)) wl.heap.size 1 t (by simp [Act.eval]) (heap_alloc_new _ _) (by omega) (by have h0 : wp.heap.size ≤ wl.heap.size := (from_drew hb).size; simp; omega) ?_; intro g' cap' w2 h1' h2' h3' h4'; have k3w := (Blk.alloc k3l (.cells #[.int .i64 t.K, .int .i64 t.V] 29)).grown h2' (fun e => by have := (hol _ e.symm).1; omega); have q3w := k3w.at 5; have f3w := k3w.frozen 5; unfold MakeV at q3w)
                  | (go_simp; go_at_call 35; refine (HI2.out _).mono ?_; rintro e wl ⟨rfl, hb⟩; have k3l := hg.later (from_drew hb); have q3l := k3l.at 5; have q3m := fun o : Obj => (k3l.alloc o).at 5; unfold MakeV at q3l q3m))
                all_goals
                  have h0 : wp.heap.size ≤ wl.heap.size := (from_drew hb).size
                  have hMl := (hM.next (from_drew hb)).next (alloc_below wl (.cells #[.int .i64 t.K, .int .i64 t.V] 29))
                  go_wp2
                  go_roundw
                  case rel =>
                    refine ⟨k + 1, _, by go_num, by rw [if_pos hs]; omega, (hMl.grown h2' (fun g' e => by have := (hol g' e).1; omega)).set hgt 5 _, k3w.set 5 _, ?_⟩
                    rw [HS.out]
                    exact h1'.far ⟨g, 5, none⟩ _ (by simp)
                  case measure => simp [intOf]; omega
            · have d1 : decide ((k : Int) < slotsI c) = false := by simpa using hlt
              have hkk : (slotsI c).toNat = k := by omega
              rw [hkk] at HFd
              clear hkk
              go_wp2_with fail
              refine (HSl.out _).mono ?_
              rintro e wp ⟨rfl, hb⟩
              replace hM := hM.next hb
              replace hg := hg.later hb
              replace hown := (hown.later hb).weak (show w.heap.size + 3 ≤ g + 1 by omega)
              clear hb c0
              have c0 := hM.2.1.at
              unfold confBox at c0
              have hin := makeE_in ns k
              have hll : (makeE ns k).length ≤ 1000000 := by rw [makeE_len]; omega
              generalize makeE ns k = TS at *
              obtain ⟨av, cv, rfl⟩ := hown.form
              have g0 := hg.at
              unfold MakeV at g0
              have z0 := hM.2.2.2.at
              unfold zeroBox at z0
              have zf := hM.2.2.2.frozen
              go_wp2
              exact make5_end ⟨3, R, s, pt, TS⟩ w _ av cv hM.1 hM.2.2.2 hown hll hin HFd.out
          · rw [if_neg hs] at hk HFd
            have d2 : decide (s < c.N) = false := by simpa using hs
            obtain rfl : k = 0 := by omega
            have d1 : decide (0 < slotsI c) = true := by simp; omega
            go_wp2_with fail
            refine (HSl.out _).mono ?_
            rintro e wp ⟨rfl, hb⟩
            replace hM := hM.next hb
            replace hg := hg.later hb
            replace hown := (hown.later hb).weak (show w.heap.size + 3 ≤ g + 1 by omega)
            clear hb c0
            have c0 := hM.2.1.at
            unfold confBox at c0
            have hin := makeE_in ns 0
            have hll : (makeE ns 0).length ≤ 1000000 := by rw [makeE_len]; omega
            generalize makeE ns 0 = TS at *
            obtain ⟨av, cv, rfl⟩ := hown.form
            have g0 := hg.at
            unfold MakeV at g0
            have z0 := hM.2.2.2.at
            unfold zeroBox at z0
            have zf := hM.2.2.2.frozen
            go_wp2
            exact make5_end ⟨3, R, s, pt, TS⟩ w _ av cv hM.1 hM.2.2.2 hown hll hin HFd.out
      · rw [if_neg h3] at HFd
        have d1 : (makeK c f != 3) = true := by simpa using h3
        clear h3 HKd
        generalize makeK c f = K at *
        have g0 := hg.at
        unfold MakeV at g0
        have z0 := hM.2.2.2.at
        unfold zeroBox at z0
        have zf := hM.2.2.2.frozen
        go_wp2
        exact make5_end ⟨K, R, s, ⟨0, 0⟩, []⟩ w _ none 0 hM.1 hM.2.2.2 (OwnT.nil _ _) (by simp) (by simp) HFd.out

theorem make5_any (c : Cf) (ca : Option Addr) (cc : Nat) (f : Fr) (fa : Option Addr) (fc : Nat) (na : Option Addr) (ns : List Int) (nc : Nat) (w : World) (hc : c.Ok) (hns : Row w na ns) (iK : inI f.K) (iR : inI f.R) (iS : inI f.S) (iV : inI f.P.V) :
    Calls Tryz.prog 14 #[.agg #[.int .i64 c.N, .int .i64 c.Pi, .int .i64 c.E, .int .i64 c.G, .int .i64 c.F, .slice ca c.P.length cc], .agg #[.int .i64 f.K, .int .i64 f.R, .int .i64 f.S, .int .i64 f.P.K, .int .i64 f.P.V, .slice fa f.E.length fc], .slice na ns.length nc] w (FrRet (makeF c f ns) w) :=
  (make5_any2 c ca cc f fa fc na ns nc w hc hns iK iR iS iV).mono fun e w' ⟨a, cap, h1, h2, h3, _, h4⟩ => ⟨a, cap, h1, h2, h3, h4⟩

end Go.Proofs.YtbghpkdkfbpmeaaGreat
/-
  Contracts of package conf, first part: numbers of a network, who is a node, whose pair slot it is, a slot's owners; nothing that was in memory is changed.
-/
namespace Go.Proofs.YtbghpkdkfbpmeaaGreat
open Go.RowKit Plait
set_option maxRecDepth 100000
set_option linter.unusedVariables false

theorem cslots_any (c : Cf) (a : Option Addr) (cap : Nat) (w : World) (hc : c.Ok) :
    Calls Tryz.prog 85 #[.agg #[.int .i64 c.N, .int .i64 c.Pi, .int .i64 c.E, .int .i64 c.G, .int .i64 c.F, .slice a c.P.length cap]] w fun e w' => e = .returned (.int .i64 (slotsI c)) ∧ Below w.heap.size w w' := by
  have h1 := hc.n6; have h2 := hc.n12; have h3 := hc.len
  go_enter Tryz.func85, Tryz.ntmps85
  go_wp2
  go_ret
  exact ⟨rfl, (Below.refl _ _).alloc (Nat.le_refl _) _⟩

theorem cwire_any (c : Cf) (a : Option Addr) (cap : Nat) (r : Int) (w : World) (hc : c.Ok) (hr : 0 ≤ r) (hr2 : r ≤ 1099511627776) :
    Calls Tryz.prog 84 #[.agg #[.int .i64 c.N, .int .i64 c.Pi, .int .i64 c.E, .int .i64 c.G, .int .i64 c.F, .slice a c.P.length cap], .int .i64 r] w fun e w' => e = .returned (.int .i64 (wireI c r)) ∧ Below w.heap.size w w' := by
  have h1 := hc.f0; have h2 := hc.f1
  have hd : IntKind.u16.wrap (c.F + r) = (c.F + r) % 65536 := by simp [IntKind.wrap, IntKind.signed, IntKind.bits]
  have HF := Lib.hid (show (c.F + r) % 65536 = wireI c r from rfl)
  go_enter Tryz.func84, Tryz.ntmps84
  go_wp2
  go_ret
  exact ⟨ret_int (by rw [← HF.out]), (Below.refl _ _).alloc (Nat.le_refl _) _⟩

/-- The loop of pairOf: none of the pairs ahead of k has the slot. -/
def PairAt (c : Cf) (s : Int) (i : Value) : Prop := ∃ k : Nat, k ≤ c.P.length ∧ i = .int .i64 k ∧ ∀ j : Nat, j < k → s ≠ c.N + j

end Go.Proofs.YtbghpkdkfbpmeaaGreat
/-
  Contracts of package frame, first part: whether a frame may be; nothing that was in memory is changed.
-/
namespace Go.Proofs.YtbghpkdkfbpmeaaGreat
open Go.RowKit Plait
set_option maxRecDepth 100000
set_option linter.unusedVariables false

theorem fisOwn_any (c : Cf) (ca : Option Addr) (cc : Nat) (s : Int) (w : World) :
    Calls Tryz.prog 93 #[.agg #[.int .i64 c.N, .int .i64 c.Pi, .int .i64 c.E, .int .i64 c.G, .int .i64 c.F, .slice ca c.P.length cc], .int .i64 s] w fun e w' => e = .returned (.bool (decide (s < c.N))) ∧ Below w.heap.size w w' := by
  go_enter Tryz.func93, Tryz.ntmps93
  go_wp2
  go_ret
  exact ⟨rfl, alloc_below _ _⟩

theorem froundHolds_any (r : Int) (w : World) :
    Calls Tryz.prog 95 #[.int .i64 r] w fun e w' => e = .returned (.bool (decide (0 ≤ r) && decide (r ≤ 65535))) ∧ w = w' := by
  cases h : decide (0 ≤ r)
  · go_enter Tryz.func95, Tryz.ntmps95
    go_wp2
    go_ret
    exact ⟨rfl, rfl⟩
  · go_enter Tryz.func95, Tryz.ntmps95
    go_wp2
    go_ret
    exact ⟨ret_bool (by simp), rfl⟩

theorem fslotHolds_any (c : Cf) (ca : Option Addr) (cc : Nat) (s : Int) (w : World) (hc : c.Ok) :
    Calls Tryz.prog 94 #[.agg #[.int .i64 c.N, .int .i64 c.Pi, .int .i64 c.E, .int .i64 c.G, .int .i64 c.F, .slice ca c.P.length cc], .int .i64 s] w fun e w' => e = .returned (.bool (decide (0 ≤ s) && decide (s < slotsI c))) ∧ Below w.heap.size w w' := by
  cases h : decide (0 ≤ s)
  · go_enter Tryz.func94, Tryz.ntmps94
    go_wp2
    go_ret
    exact ⟨rfl, alloc_below _ _⟩
  · go_enter Tryz.func94, Tryz.ntmps94
    go_wp2_with fail
    refine (cslots_any c ca cc _ hc).mono ?_
    rintro e wn ⟨rfl, hb⟩
    obtain ⟨hB, hK, hZ⟩ := boxed hb
    have hQ := hK.at
    clear hb
    go_wp2
    go_ret
    exact ⟨ret_bool (by simp), hB⟩

set_option maxHeartbeats 800000 in
theorem fisNoItem_any (i : It) (w : World) :
    Calls Tryz.prog 99 #[.agg #[.int .i64 i.K, .int .i64 i.V]] w fun e w' => e = .returned (.bool (!itemB i false)) ∧ Below w.heap.size w w' := by
  by_cases k0 : i.K = 0
  · have HF := Lib.hid (show (!itemB i false) = (i.V != 0) by unfold itemB; rw [if_pos k0]; simp [bne])
    have c0 : (i.K == 0) = true := by simpa using k0
    clear k0
    go_enter Tryz.func99, Tryz.ntmps99
    go_wp2
    go_ret
    exact ⟨ret_bool HF.out.symm, alloc_below _ _⟩
  · have c0 : (i.K == 0) = false := by simpa using k0
    by_cases k1 : i.K = 1
    · have HF := Lib.hid (show (!itemB i false) = (i.V != 0) by unfold itemB; rw [if_neg k0, if_pos k1]; simp [bne])
      have c1 : (i.K == 1) = true := by simpa using k1
      clear k0 k1
      go_enter Tryz.func99, Tryz.ntmps99
      go_wp2
      go_ret
      exact ⟨ret_bool HF.out.symm, alloc_below _ _⟩
    · have c1 : (i.K == 1) = false := by simpa using k1
      by_cases k2 : i.K = 2
      · have HF := Lib.hid (show (!itemB i false) = (decide (i.V < 0) || decide (255 < i.V)) by
          unfold itemB
          rw [if_neg k0, if_neg k1, if_pos k2]
          by_cases h1 : i.V < 0
          · simp [h1]
          · by_cases h2 : 255 < i.V
            · simp [h1, h2]
            · simp [h1, h2]; omega)
        have c2 : (i.K == 2) = true := by simpa using k2
        clear k0 k1 k2
        cases hv : decide (i.V < 0)
        · rw [hv] at HF
          go_enter Tryz.func99, Tryz.ntmps99
          go_wp2
          go_ret
          exact ⟨ret_bool (by rw [HF.out]; simp), alloc_below _ _⟩
        · rw [hv] at HF
          go_enter Tryz.func99, Tryz.ntmps99
          go_wp2
          go_ret
          exact ⟨ret_bool (by rw [HF.out]; rfl), alloc_below _ _⟩
      · have HF := Lib.hid (show (!itemB i false) = true by unfold itemB; rw [if_neg k0, if_neg k1, if_neg k2]; rfl)
        have c2 : (i.K == 2) = false := by simpa using k2
        clear k0 k1 k2
        go_enter Tryz.func99, Tryz.ntmps99
        go_wp2
        go_ret
        exact ⟨ret_bool HF.out.symm, alloc_below _ _⟩

set_option maxHeartbeats 800000 in
theorem fkindHolds_any (c : Cf) (ca : Option Addr) (cc : Nat) (f : Fr) (a : Option Addr) (cap : Nat) (w : World) :
    Calls Tryz.prog 96 #[.agg #[.int .i64 c.N, .int .i64 c.Pi, .int .i64 c.E, .int .i64 c.G, .int .i64 c.F, .slice ca c.P.length cc], .agg #[.int .i64 f.K, .int .i64 f.R, .int .i64 f.S, .int .i64 f.P.K, .int .i64 f.P.V, .slice a f.E.length cap]] w fun e w' => e = .returned (.bool (!badK c f)) ∧ Below w.heap.size w w' := by
  have hB : Below w.heap.size w ((w.alloc (.cells #[.int .i64 c.N, .int .i64 c.Pi, .int .i64 c.E, .int .i64 c.G, .int .i64 c.F, .slice ca c.P.length cc] 24)).alloc (.cells #[.int .i64 f.K, .int .i64 f.R, .int .i64 f.S, .int .i64 f.P.K, .int .i64 f.P.V, .slice a f.E.length cap] 32)) := (alloc_below w _).alloc (by simp) _
  have own : f.K = 1 ∨ f.K = 2 → (!badK c f) = decide (f.S < c.N) := fun h => by
    unfold badK
    by_cases hs : f.S < c.N
    · have : ¬ c.N ≤ f.S := by omega
      rcases h with h | h <;> simp [h, hs]
    · have : c.N ≤ f.S := by omega
      rcases h with h | h <;> simp [h, hs, this]
  by_cases k1 : f.K = 1
  · have HF := Lib.hid (own (.inl k1))
    have c1 : (f.K == 1) = true := by simpa using k1
    clear k1 own
    go_enter Tryz.func96, Tryz.ntmps96
    go_wp2_with fail
    refine (fisOwn_any c ca cc f.S _).mono ?_
    rintro e wn ⟨rfl, hb⟩
    go_wp2
    go_ret
    exact ⟨ret_bool HF.out.symm, hB.trans (hb.mono hB.size)⟩
  · have c1 : (f.K == 1) = false := by simpa using k1
    by_cases k2 : f.K = 2
    · have HF := Lib.hid (own (.inr k2))
      have c2 : (f.K == 2) = true := by simpa using k2
      clear k1 k2 own
      go_enter Tryz.func96, Tryz.ntmps96
      go_wp2_with fail
      refine (fisOwn_any c ca cc f.S _).mono ?_
      rintro e wn ⟨rfl, hb⟩
      go_wp2
      go_ret
      exact ⟨ret_bool HF.out.symm, hB.trans (hb.mono hB.size)⟩
    · have c2 : (f.K == 2) = false := by simpa using k2
      by_cases k3 : f.K = 3
      · have HF := Lib.hid (show (!badK c f) = true by unfold badK; simp [k3])
        have c3 : (f.K == 3) = true := by simpa using k3
        clear k1 k2 k3 own
        go_enter Tryz.func96, Tryz.ntmps96
        go_wp2
        go_ret
        exact ⟨ret_bool HF.out.symm, hB⟩
      · have HF := Lib.hid (show (!badK c f) = false by
          unfold badK
          by_cases h1 : f.K < 1
          · simp [h1]
          · have : 3 < f.K := by omega
            simp [h1, this])
        have c3 : (f.K == 3) = false := by simpa using k3
        clear k1 k2 k3 own
        go_enter Tryz.func96, Tryz.ntmps96
        go_wp2
        go_ret
        exact ⟨ret_bool HF.out.symm, hB⟩

theorem pay_spec (f : Fr) : (!badP f) = (!(!itemB f.P false) && ((f.P.K != 0) == (f.K == 3))) := by
  unfold badP
  cases hK : (f.K == 3)
  · have : (f.K != 3) = true := by rw [bne, hK]; rfl
    rw [this]
    cases itemB f.P false <;> cases h0 : (f.P.K != 0) <;> rfl
  · have : (f.K != 3) = false := by rw [bne, hK]; rfl
    rw [this]
    unfold itemB
    by_cases k0 : f.P.K = 0
    · simp [k0]
    · simp [k0]

set_option maxHeartbeats 800000 in
theorem fpayHolds_any (f : Fr) (a : Option Addr) (cap : Nat) (w : World) :
    Calls Tryz.prog 97 #[.agg #[.int .i64 f.K, .int .i64 f.R, .int .i64 f.S, .int .i64 f.P.K, .int .i64 f.P.V, .slice a f.E.length cap]] w fun e w' => e = .returned (.bool (!badP f)) ∧ Below w.heap.size w w' := by
  have HF := Lib.hid (pay_spec f)
  have HC := Lib.hid (fun W => fisNoItem_any f.P W)
  cases hi : itemB f.P false
  · rw [hi] at HF HC
    go_enter Tryz.func97, Tryz.ntmps97
    go_wp2_with fail
    refine (HC.out _).mono ?_
    rintro e wn ⟨rfl, hb⟩
    obtain ⟨hB, hK, hZ⟩ := boxed hb
    have hQ := hK.at
    clear hb
    go_wp2
    go_ret
    exact ⟨ret_bool (by rw [HF.out]; rfl), hB⟩
  · rw [hi] at HF HC
    go_enter Tryz.func97, Tryz.ntmps97
    go_wp2_with fail
    refine (HC.out _).mono ?_
    rintro e wn ⟨rfl, hb⟩
    obtain ⟨hB, hK, hZ⟩ := boxed hb
    have hQ := hK.at
    clear hb
    go_wp2
    go_ret
    exact ⟨ret_bool (by rw [HF.out]; simp), hB⟩

set_option maxHeartbeats 800000 in
theorem fechoes_any (c : Cf) (ca : Option Addr) (cc : Nat) (f : Fr) (a : Option Addr) (cap : Nat) (w : World) (hc : c.Ok) :
    Calls Tryz.prog 82 #[.agg #[.int .i64 c.N, .int .i64 c.Pi, .int .i64 c.E, .int .i64 c.G, .int .i64 c.F, .slice ca c.P.length cc], .agg #[.int .i64 f.K, .int .i64 f.R, .int .i64 f.S, .int .i64 f.P.K, .int .i64 f.P.V, .slice a f.E.length cap]] w fun e w' => e = .returned (.int .i64 (echoI c f.K f.S)) ∧ Below w.heap.size w w' := by
  have hB : Below w.heap.size w ((w.alloc (.cells #[.int .i64 c.N, .int .i64 c.Pi, .int .i64 c.E, .int .i64 c.G, .int .i64 c.F, .slice ca c.P.length cc] 24)).alloc (.cells #[.int .i64 f.K, .int .i64 f.R, .int .i64 f.S, .int .i64 f.P.K, .int .i64 f.P.V, .slice a f.E.length cap] 32)) := (alloc_below w _).alloc (by simp) _
  have hC : Blk ((w.alloc (.cells #[.int .i64 c.N, .int .i64 c.Pi, .int .i64 c.E, .int .i64 c.G, .int .i64 c.F, .slice ca c.P.length cc] 24)).alloc (.cells #[.int .i64 f.K, .int .i64 f.R, .int .i64 f.S, .int .i64 f.P.K, .int .i64 f.P.V, .slice a f.E.length cap] 32)) w.heap.size 24 (confBox c ca cc) := (Blk.new w _ _).alloc _
  by_cases h3 : f.K = 3
  · have c3 : (f.K == 3) = true := by simpa using h3
    by_cases hs : f.S < c.N
    · have HF := Lib.hid (show echoI c f.K f.S = slotsI c by unfold echoI; rw [if_pos ⟨h3, hs⟩])
      have d1 : decide (f.S < c.N) = true := by simpa using hs
      clear h3 hs
      go_enter Tryz.func82, Tryz.ntmps82
      go_wp2_with fail
      refine (fisOwn_any c ca cc f.S _).mono ?_
      rintro e wn ⟨rfl, hb⟩
      rw [d1]
      replace hB := hB.trans (hb.mono hB.size)
      replace hC := hC.later hb
      have hQ := hC.at
      unfold confBox at hQ
      clear hb
      go_wp2_with fail
      refine (cslots_any c ca cc _ hc).mono ?_
      rintro e wm ⟨rfl, hb⟩
      go_wp2
      go_ret
      exact ⟨ret_int HF.out.symm, hB.trans (hb.mono hB.size)⟩
    · have HF := Lib.hid (show echoI c f.K f.S = 0 by unfold echoI; rw [if_neg (by simp [hs])])
      have d1 : decide (f.S < c.N) = false := by simpa using hs
      clear h3 hs
      go_enter Tryz.func82, Tryz.ntmps82
      go_wp2_with fail
      refine (fisOwn_any c ca cc f.S _).mono ?_
      rintro e wn ⟨rfl, hb⟩
      rw [d1]
      go_wp2
      go_ret
      exact ⟨ret_int HF.out.symm, hB.trans (hb.mono hB.size)⟩
  · have HF := Lib.hid (show echoI c f.K f.S = 0 by unfold echoI; rw [if_neg (by simp [h3])])
    have c3 : (f.K == 3) = false := by simpa using h3
    clear h3
    go_enter Tryz.func82, Tryz.ntmps82
    go_wp2
    go_ret
    exact ⟨ret_int HF.out.symm, hB⟩

/-- The first item that is none. -/
theorem no_take (E : List It) (k : Nat) (h : k < E.length) (ha : ∀ i ∈ E.take k, itemB i false = true) (e : itemB E[k] false = true) : ∀ i ∈ E.take (k + 1), itemB i false = true := by
  rw [List.take_succ_eq_append_getElem h]
  intro i hi
  rcases List.mem_append.1 hi with h | h
  · exact ha i h
  · simp at h; rw [h]; exact e

set_option maxHeartbeats 800000 in
theorem fcontains_any (a : Option Addr) (E : List It) (cap : Nat) (w : World) (hE : RowT w a E) :
    Calls Tryz.prog 98 #[.slice a E.length cap, .func (.func 99) #[] #[]] w fun e w' => e = .returned (.bool (!E.all (itemB · false))) ∧ Below w.heap.size w w' := by
  have HI := Lib.hid (show Calls Tryz.prog 103 #[.slice a E.length cap, .func (.func 99) #[] #[]] w fun e w' => (∃ r : Int, e = .returned (.int .i64 r) ∧ decide (0 ≤ r) = !E.all (itemB · false)) ∧ Below w.heap.size w w' from by
    have hlen := hE.1
    go_enter Tryz.func103, Tryz.ntmps103
    go_wp2
    go_loopw [5, 8] (fun _ i w' => ∃ k : Nat, k ≤ E.length ∧ i = .int .i64 k ∧ (E.take k).all (itemB · false) = true ∧ Below w.heap.size w w') (fun _ i _ => E.length - (intOf i).toNat)
    case atStart => exact ⟨0, Nat.zero_le _, rfl, by simp, Below.refl _ _⟩
    case round =>
      obtain ⟨k, hk, rfl, hno, hB⟩ := hrel
      have HN := Lib.hid hno
      clear hno
      by_cases hlt : k < E.length
      · have d1 : decide (k < E.length) = true := by simpa using hlt
        obtain ⟨b, off, rfl, hbl, c1, c2, _, _⟩ := (hE.later hB).get k hlt
        have HC := Lib.hid (fun W => fisNoItem_any E[k] W)
        cases hx : itemB E[k] false
        · have HF := Lib.hid (all_no E k hlt hx)
          rw [hx] at HC
          clear hx
          generalize E[k] = t at *
          go_wp2_with fail
          refine (HC.out _).mono ?_
          rintro e wn ⟨rfl, hb⟩
          go_wp2
          go_ret
          exact ⟨⟨_, rfl, by rw [HF.out]; simp⟩, hB.trans (hb.mono hB.size)⟩
        · have HS := Lib.hid (all_step E k hlt HN.out hx)
          rw [hx] at HC
          clear hx
          generalize E[k] = t at *
          go_wp2_with fail
          refine (HC.out _).mono ?_
          rintro e wn ⟨rfl, hb⟩
          go_wp2
          go_roundw
          case rel => exact ⟨k + 1, by omega, by go_num, HS.out, hB.trans (hb.mono hB.size)⟩
          case measure => simp [intOf]; omega
      · have d1 : decide (k < E.length) = false := by simpa using hlt
        have HF := Lib.hid (all_end E k hlt HN.out)
        go_wp2
        go_ret
        exact ⟨⟨_, rfl, by rw [HF.out]; rfl⟩, hB⟩)
  go_enter Tryz.func98, Tryz.ntmps98
  go_wp2_with fail
  refine HI.out.mono ?_
  rintro e wn ⟨⟨r, rfl, hr⟩, hb⟩
  have HR := Lib.hid hr
  clear hr
  go_wp2
  go_ret
  exact ⟨ret_bool HR.out, hb⟩

end Go.Proofs.YtbghpkdkfbpmeaaGreat
/-
  Contracts of package frame, second part: Check.
-/
namespace Go.Proofs.YtbghpkdkfbpmeaaGreat
open Go.RowKit Plait
set_option maxRecDepth 100000
set_option linter.unusedVariables false

theorem badA_spec (c : Cf) (f : Fr) : badA c f = (!(decide (0 ≤ f.S) && decide (f.S < slotsI c)) || !(decide (0 ≤ f.R) && decide (f.R ≤ 65535))) := by
  unfold badA
  rw [show decide (f.S < 0) = !decide (0 ≤ f.S) by rw [← decide_not]; congr 1; exact propext ⟨by omega, by omega⟩, show decide (slotsI c ≤ f.S) = !decide (f.S < slotsI c) by rw [← decide_not]; congr 1; exact propext ⟨by omega, by omega⟩,
    show decide (f.R < 0) = !decide (0 ≤ f.R) by rw [← decide_not]; congr 1; exact propext ⟨by omega, by omega⟩, show decide (65536 ≤ f.R) = !decide (f.R ≤ 65535) by rw [← decide_not]; congr 1; exact propext ⟨by omega, by omega⟩]
  cases decide (0 ≤ f.S) <;> cases decide (f.S < slotsI c) <;> cases decide (0 ≤ f.R) <;> cases decide (f.R ≤ 65535) <;> rfl

set_option maxHeartbeats 3200000 in
theorem fCheck_any (c : Cf) (ca : Option Addr) (cc : Nat) (f : Fr) (a : Option Addr) (cap : Nat) (w : World) (hc : c.Ok) (hE : RowT w a f.E) :
    Calls Tryz.prog 83 #[.agg #[.int .i64 c.N, .int .i64 c.Pi, .int .i64 c.E, .int .i64 c.G, .int .i64 c.F, .slice ca c.P.length cc], .agg #[.int .i64 f.K, .int .i64 f.R, .int .i64 f.S, .int .i64 f.P.K, .int .i64 f.P.V, .slice a f.E.length cap]] w fun e w' => e = .returned (.int .i64 (checkF c f)) ∧ Below w.heap.size w w' := by
  have hB : Below w.heap.size w ((w.alloc (.cells #[.int .i64 c.N, .int .i64 c.Pi, .int .i64 c.E, .int .i64 c.G, .int .i64 c.F, .slice ca c.P.length cc] 24)).alloc (.cells #[.int .i64 f.K, .int .i64 f.R, .int .i64 f.S, .int .i64 f.P.K, .int .i64 f.P.V, .slice a f.E.length cap] 32)) := (alloc_below w _).alloc (by simp) _
  have hC : Blk ((w.alloc (.cells #[.int .i64 c.N, .int .i64 c.Pi, .int .i64 c.E, .int .i64 c.G, .int .i64 c.F, .slice ca c.P.length cc] 24)).alloc (.cells #[.int .i64 f.K, .int .i64 f.R, .int .i64 f.S, .int .i64 f.P.K, .int .i64 f.P.V, .slice a f.E.length cap] 32)) w.heap.size 24 (confBox c ca cc) := (Blk.new w _ _).alloc _
  have hK : Blk ((w.alloc (.cells #[.int .i64 c.N, .int .i64 c.Pi, .int .i64 c.E, .int .i64 c.G, .int .i64 c.F, .slice ca c.P.length cc] 24)).alloc (.cells #[.int .i64 f.K, .int .i64 f.R, .int .i64 f.S, .int .i64 f.P.K, .int .i64 f.P.V, .slice a f.E.length cap] 32)) (w.heap.size + 1) 32 (frBox f a cap) := Blk.newAt _ _ (by simp)
  have hlen := hE.1
  replace hE := hE.later hB
  have HA := Lib.hid (badA_spec c f)
  have HSl := Lib.hid (fun W => fslotHolds_any c ca cc f.S W hc)
  have HRo := Lib.hid (fun W => froundHolds_any f.R W)
  have HKi := Lib.hid (fun W => fkindHolds_any c ca cc f a cap W)
  have HPa := Lib.hid (fun W => fpayHolds_any f a cap W)
  have HEc := Lib.hid (fun W => fechoes_any c ca cc f a cap W hc)
  generalize (decide (0 ≤ f.S) && decide (f.S < slotsI c)) = bs at *
  generalize (decide (0 ≤ f.R) && decide (f.R ≤ 65535)) = br at *
  cases bs
  · have HF := Lib.hid (checkF_a c f (by rw [HA.out]; rfl))
    go_enter Tryz.func83, Tryz.ntmps83
    go_wp2_with fail
    refine (HSl.out _).mono ?_
    rintro e wn ⟨rfl, hb⟩
    (try clear hQc hQf)
    replace hB := hB.trans (hb.mono hB.size)
    replace hC := hC.later hb
    replace hK := hK.later hb
    replace hE := hE.later hb
    have hQc := hC.at
    have hQf := hK.at
    unfold confBox at hQc
    unfold frBox at hQf
    clear hb
    go_wp2
    go_ret
    exact ⟨ret_int HF.out.symm, hB⟩
  cases br
  · have HF := Lib.hid (checkF_a c f (by rw [HA.out]; rfl))
    go_enter Tryz.func83, Tryz.ntmps83
    go_wp2_with fail
    refine (HSl.out _).mono ?_
    rintro e wn ⟨rfl, hb⟩
    (try clear hQc hQf)
    replace hB := hB.trans (hb.mono hB.size)
    replace hC := hC.later hb
    replace hK := hK.later hb
    replace hE := hE.later hb
    have hQc := hC.at
    have hQf := hK.at
    unfold confBox at hQc
    unfold frBox at hQf
    clear hb
    go_wp2_with fail
    refine (HRo.out _).mono ?_
    rintro e wl ⟨rfl, rfl⟩
    go_wp2
    go_ret
    exact ⟨ret_int HF.out.symm, hB⟩
  cases hk : badK c f
  rotate_left
  · have HF := Lib.hid (checkF_k c f (by rw [HA.out]; rfl) hk)
    rw [hk] at HKi
    go_enter Tryz.func83, Tryz.ntmps83
    go_wp2_with fail
    refine (HSl.out _).mono ?_
    rintro e wn ⟨rfl, hb⟩
    (try clear hQc hQf)
    replace hB := hB.trans (hb.mono hB.size)
    replace hC := hC.later hb
    replace hK := hK.later hb
    replace hE := hE.later hb
    have hQc := hC.at
    have hQf := hK.at
    unfold confBox at hQc
    unfold frBox at hQf
    clear hb
    go_wp2_with fail
    refine (HRo.out _).mono ?_
    rintro e wl ⟨rfl, rfl⟩
    go_wp2_with fail
    refine (HKi.out _).mono ?_
    rintro e wn ⟨rfl, hb⟩
    (try clear hQc hQf)
    replace hB := hB.trans (hb.mono hB.size)
    replace hC := hC.later hb
    replace hK := hK.later hb
    replace hE := hE.later hb
    have hQc := hC.at
    have hQf := hK.at
    unfold confBox at hQc
    unfold frBox at hQf
    clear hb
    go_wp2
    go_ret
    exact ⟨ret_int HF.out.symm, hB⟩
  rw [hk] at HKi
  cases hp : badP f
  rotate_left
  · have HF := Lib.hid (checkF_p c f (by rw [HA.out]; rfl) hk hp)
    rw [hp] at HPa
    go_enter Tryz.func83, Tryz.ntmps83
    go_wp2_with fail
    refine (HSl.out _).mono ?_
    rintro e wn ⟨rfl, hb⟩
    (try clear hQc hQf)
    replace hB := hB.trans (hb.mono hB.size)
    replace hC := hC.later hb
    replace hK := hK.later hb
    replace hE := hE.later hb
    have hQc := hC.at
    have hQf := hK.at
    unfold confBox at hQc
    unfold frBox at hQf
    clear hb
    go_wp2_with fail
    refine (HRo.out _).mono ?_
    rintro e wl ⟨rfl, rfl⟩
    go_wp2_with fail
    refine (HKi.out _).mono ?_
    rintro e wn ⟨rfl, hb⟩
    (try clear hQc hQf)
    replace hB := hB.trans (hb.mono hB.size)
    replace hC := hC.later hb
    replace hK := hK.later hb
    replace hE := hE.later hb
    have hQc := hC.at
    have hQf := hK.at
    unfold confBox at hQc
    unfold frBox at hQf
    clear hb
    go_wp2_with fail
    refine (HPa.out _).mono ?_
    rintro e wn ⟨rfl, hb⟩
    (try clear hQc hQf)
    replace hB := hB.trans (hb.mono hB.size)
    replace hC := hC.later hb
    replace hK := hK.later hb
    replace hE := hE.later hb
    have hQc := hC.at
    have hQf := hK.at
    unfold confBox at hQc
    unfold frBox at hQf
    clear hb
    go_wp2
    go_ret
    exact ⟨ret_int HF.out.symm, hB⟩
  rw [hp] at HPa
  by_cases hl : (f.E.length : Int) = echoI c f.K f.S
  · have HF := Lib.hid (checkF_e c f (by rw [HA.out]; rfl) hk hp hl)
    have d2 : ((f.E.length : Int) != echoI c f.K f.S) = false := by simpa using hl
    clear hl hk hp
    generalize echoI c f.K f.S = en at *
    have HCo := Lib.hid (fun W (h : RowT W a f.E) => fcontains_any a f.E cap W h)
    cases hx : f.E.all (itemB · false)
    all_goals
      rw [hx] at HF HCo
      clear hx
      go_enter Tryz.func83, Tryz.ntmps83
      go_wp2_with fail
      refine (HSl.out _).mono ?_
      rintro e wn ⟨rfl, hb⟩
      (try clear hQc hQf)
      replace hB := hB.trans (hb.mono hB.size)
      replace hC := hC.later hb
      replace hK := hK.later hb
      replace hE := hE.later hb
      have hQc := hC.at
      have hQf := hK.at
      unfold confBox at hQc
      unfold frBox at hQf
      clear hb
      go_wp2_with fail
      refine (HRo.out _).mono ?_
      rintro e wl ⟨rfl, rfl⟩
      go_wp2_with fail
      refine (HKi.out _).mono ?_
      rintro e wn ⟨rfl, hb⟩
      (try clear hQc hQf)
      replace hB := hB.trans (hb.mono hB.size)
      replace hC := hC.later hb
      replace hK := hK.later hb
      replace hE := hE.later hb
      have hQc := hC.at
      have hQf := hK.at
      unfold confBox at hQc
      unfold frBox at hQf
      clear hb
      go_wp2_with fail
      refine (HPa.out _).mono ?_
      rintro e wn ⟨rfl, hb⟩
      (try clear hQc hQf)
      replace hB := hB.trans (hb.mono hB.size)
      replace hC := hC.later hb
      replace hK := hK.later hb
      replace hE := hE.later hb
      have hQc := hC.at
      have hQf := hK.at
      unfold confBox at hQc
      unfold frBox at hQf
      clear hb
      go_wp2_with fail
      clear hQc hQf
      obtain ⟨I, F, i0, h0, hR, hcl⟩ := class_any wn (stable_and (stable_below w) (stable_and (stable_blk w.heap.size 24 (confBox c ca cc)) (stable_and (stable_blk (w.heap.size + 1) 32 (frBox f a cap)) (stable_rowT a f.E)))) ⟨hB, hC, hK, hE⟩
      have K_hB := Lib.hid (fun i => (hR i).1)
      have qhC0 : ∀ i, (F i).cell? ⟨w.heap.size, 0, none⟩ = some (.int .i64 c.N) := fun i => by rw [(hR i).2.1.at]; rfl
      have qhC1 : ∀ i, (F i).cell? ⟨w.heap.size, 1, none⟩ = some (.int .i64 c.Pi) := fun i => by rw [(hR i).2.1.at]; rfl
      have qhC2 : ∀ i, (F i).cell? ⟨w.heap.size, 2, none⟩ = some (.int .i64 c.E) := fun i => by rw [(hR i).2.1.at]; rfl
      have qhC3 : ∀ i, (F i).cell? ⟨w.heap.size, 3, none⟩ = some (.int .i64 c.G) := fun i => by rw [(hR i).2.1.at]; rfl
      have qhC4 : ∀ i, (F i).cell? ⟨w.heap.size, 4, none⟩ = some (.int .i64 c.F) := fun i => by rw [(hR i).2.1.at]; rfl
      have qhC5 : ∀ i, (F i).cell? ⟨w.heap.size, 5, none⟩ = some (.slice ca c.P.length cc) := fun i => by rw [(hR i).2.1.at]; rfl
      have K_hC := Lib.hid (fun i => (hR i).2.1)
      have qhK0 : ∀ i, (F i).cell? ⟨w.heap.size + 1, 0, none⟩ = some (.int .i64 f.K) := fun i => by rw [(hR i).2.2.1.at]; rfl
      have qhK1 : ∀ i, (F i).cell? ⟨w.heap.size + 1, 1, none⟩ = some (.int .i64 f.R) := fun i => by rw [(hR i).2.2.1.at]; rfl
      have qhK2 : ∀ i, (F i).cell? ⟨w.heap.size + 1, 2, none⟩ = some (.int .i64 f.S) := fun i => by rw [(hR i).2.2.1.at]; rfl
      have qhK3 : ∀ i, (F i).cell? ⟨w.heap.size + 1, 3, none⟩ = some (.int .i64 f.P.K) := fun i => by rw [(hR i).2.2.1.at]; rfl
      have qhK4 : ∀ i, (F i).cell? ⟨w.heap.size + 1, 4, none⟩ = some (.int .i64 f.P.V) := fun i => by rw [(hR i).2.2.1.at]; rfl
      have qhK5 : ∀ i, (F i).cell? ⟨w.heap.size + 1, 5, none⟩ = some (.slice a f.E.length cap) := fun i => by rw [(hR i).2.2.1.at]; rfl
      have K_hK := Lib.hid (fun i => (hR i).2.2.1)
      have K_hE := Lib.hid (fun i => (hR i).2.2.2)
      have HR := Lib.hid hR
      have HC := Lib.hid hcl
      have H0 := Lib.hid h0
      clear hR hcl h0
      haveI : Nonempty I := ⟨i0⟩
      refine wp_region_class F i0 H0.out (by kernel_rfl) (by kernel_rfl) ?_
      repeat (go_big_quiet_step ((first | (go_at_call 82; exact class_call HC.out (HEc.out _)))))
      refine wpQuiet_nil ?_
      intro _ hw'
      obtain ⟨iq, hw''⟩ := hw'
      subst hw''
      clear hB hC hK hE K_hB qhC0 qhC1 qhC2 qhC3 qhC4 qhC5 K_hC qhK0 qhK1 qhK2 qhK3 qhK4 qhK5 K_hK K_hE HC H0
      obtain ⟨hB, hC, hK, hE⟩ := HR.out iq
      clear HR
      generalize F iq = wn at *
      have hQf := hK.at
      unfold frBox at hQf
      have hQc := hC.at
      unfold confBox at hQc
      go_wp2_with fail
      refine (HCo.out _ hE).mono ?_
      rintro e wm ⟨rfl, hb⟩
      go_wp2
      go_ret
      exact ⟨ret_int HF.out.symm, hB.trans (hb.mono hB.size)⟩
  · have HF := Lib.hid (checkF_l c f (by rw [HA.out]; rfl) hk hp hl)
    have d2 : ((f.E.length : Int) != echoI c f.K f.S) = true := by simpa using hl
    clear hl hk hp
    generalize echoI c f.K f.S = en at *
    go_enter Tryz.func83, Tryz.ntmps83
    go_wp2_with fail
    refine (HSl.out _).mono ?_
    rintro e wn ⟨rfl, hb⟩
    (try clear hQc hQf)
    replace hB := hB.trans (hb.mono hB.size)
    replace hC := hC.later hb
    replace hK := hK.later hb
    replace hE := hE.later hb
    have hQc := hC.at
    have hQf := hK.at
    unfold confBox at hQc
    unfold frBox at hQf
    clear hb
    go_wp2_with fail
    refine (HRo.out _).mono ?_
    rintro e wl ⟨rfl, rfl⟩
    go_wp2_with fail
    refine (HKi.out _).mono ?_
    rintro e wn ⟨rfl, hb⟩
    (try clear hQc hQf)
    replace hB := hB.trans (hb.mono hB.size)
    replace hC := hC.later hb
    replace hK := hK.later hb
    replace hE := hE.later hb
    have hQc := hC.at
    have hQf := hK.at
    unfold confBox at hQc
    unfold frBox at hQf
    clear hb
    go_wp2_with fail
    refine (HPa.out _).mono ?_
    rintro e wn ⟨rfl, hb⟩
    (try clear hQc hQf)
    replace hB := hB.trans (hb.mono hB.size)
    replace hC := hC.later hb
    replace hK := hK.later hb
    replace hE := hE.later hb
    have hQc := hC.at
    have hQf := hK.at
    unfold confBox at hQc
    unfold frBox at hQf
    clear hb
    go_wp2_with fail
    clear hQc hQf
    obtain ⟨I, F, i0, h0, hR, hcl⟩ := class_any wn (stable_and (stable_below w) (stable_and (stable_blk w.heap.size 24 (confBox c ca cc)) (stable_and (stable_blk (w.heap.size + 1) 32 (frBox f a cap)) (stable_rowT a f.E)))) ⟨hB, hC, hK, hE⟩
    have K_hB := Lib.hid (fun i => (hR i).1)
    have qhC0 : ∀ i, (F i).cell? ⟨w.heap.size, 0, none⟩ = some (.int .i64 c.N) := fun i => by rw [(hR i).2.1.at]; rfl
    have qhC1 : ∀ i, (F i).cell? ⟨w.heap.size, 1, none⟩ = some (.int .i64 c.Pi) := fun i => by rw [(hR i).2.1.at]; rfl
    have qhC2 : ∀ i, (F i).cell? ⟨w.heap.size, 2, none⟩ = some (.int .i64 c.E) := fun i => by rw [(hR i).2.1.at]; rfl
    have qhC3 : ∀ i, (F i).cell? ⟨w.heap.size, 3, none⟩ = some (.int .i64 c.G) := fun i => by rw [(hR i).2.1.at]; rfl
    have qhC4 : ∀ i, (F i).cell? ⟨w.heap.size, 4, none⟩ = some (.int .i64 c.F) := fun i => by rw [(hR i).2.1.at]; rfl
    have qhC5 : ∀ i, (F i).cell? ⟨w.heap.size, 5, none⟩ = some (.slice ca c.P.length cc) := fun i => by rw [(hR i).2.1.at]; rfl
    have K_hC := Lib.hid (fun i => (hR i).2.1)
    have qhK0 : ∀ i, (F i).cell? ⟨w.heap.size + 1, 0, none⟩ = some (.int .i64 f.K) := fun i => by rw [(hR i).2.2.1.at]; rfl
    have qhK1 : ∀ i, (F i).cell? ⟨w.heap.size + 1, 1, none⟩ = some (.int .i64 f.R) := fun i => by rw [(hR i).2.2.1.at]; rfl
    have qhK2 : ∀ i, (F i).cell? ⟨w.heap.size + 1, 2, none⟩ = some (.int .i64 f.S) := fun i => by rw [(hR i).2.2.1.at]; rfl
    have qhK3 : ∀ i, (F i).cell? ⟨w.heap.size + 1, 3, none⟩ = some (.int .i64 f.P.K) := fun i => by rw [(hR i).2.2.1.at]; rfl
    have qhK4 : ∀ i, (F i).cell? ⟨w.heap.size + 1, 4, none⟩ = some (.int .i64 f.P.V) := fun i => by rw [(hR i).2.2.1.at]; rfl
    have qhK5 : ∀ i, (F i).cell? ⟨w.heap.size + 1, 5, none⟩ = some (.slice a f.E.length cap) := fun i => by rw [(hR i).2.2.1.at]; rfl
    have K_hK := Lib.hid (fun i => (hR i).2.2.1)
    have K_hE := Lib.hid (fun i => (hR i).2.2.2)
    have HR := Lib.hid hR
    have HC := Lib.hid hcl
    have H0 := Lib.hid h0
    clear hR hcl h0
    haveI : Nonempty I := ⟨i0⟩
    refine wp_region_class F i0 H0.out (by kernel_rfl) (by kernel_rfl) ?_
    repeat (go_big_quiet_step ((first | (go_at_call 82; exact class_call HC.out (HEc.out _)))))
    refine wpQuiet_nil ?_
    intro _ hw'
    obtain ⟨iq, hw''⟩ := hw'
    subst hw''
    clear hB hC hK hE K_hB qhC0 qhC1 qhC2 qhC3 qhC4 qhC5 K_hC qhK0 qhK1 qhK2 qhK3 qhK4 qhK5 K_hK K_hE HC H0
    obtain ⟨hB, hC, hK, hE⟩ := HR.out iq
    clear HR
    generalize F iq = wn at *
    have hQf := hK.at
    unfold frBox at hQf
    have hQc := hC.at
    unfold confBox at hQc
    go_wp2
    go_ret
    exact ⟨ret_int HF.out.symm, hB⟩

end Go.Proofs.YtbghpkdkfbpmeaaGreat

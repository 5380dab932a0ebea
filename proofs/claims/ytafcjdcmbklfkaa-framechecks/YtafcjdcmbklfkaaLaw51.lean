/-
  plaitinglaw5's Make.
-/
import Derived.Test.YtafcjdcmbklfkaaLaw50
namespace Go.Proofs.Ytafcjdcmbklfkaa
open Go.RowKit Plait
set_option linter.unusedVariables false

/-- What a call answers that makes a frame. -/
def FrRet (f : Fr) (w : World) (e : Ending) (w' : World) : Prop :=
  ∃ (a : Option Addr) (cap : Nat), e = .returned (.agg #[.int .i64 f.K, .int .i64 f.R, .int .i64 f.S, .int .i64 f.P.K, .int .i64 f.P.V, .slice a f.E.length cap]) ∧ RowT w' a f.E ∧ (∀ x, a = some x → w.heap.size ≤ x.block) ∧ Below w.heap.size w w'

theorem from_drew {w wl : World} (hb : Below w.drew.heap.size w.drew wl) : Below w.heap.size w wl := (Below.refl _ w).drew.trans hb

theorem OwnT.weak {base base' : Nat} {w : World} {v : Value} {ts : List It} (h : OwnT base w v ts) (hb : base' ≤ base) : OwnT base' w v ts := by
  refine ⟨h.1, ?_⟩
  rcases h.2 with h | ⟨g, cap, cur, h1, h2, h3⟩
  · exact .inl h
  · exact .inr ⟨g, cap, cur, h1, by omega, h3⟩

/-- The same, and that the row is the call's own. -/
def FrRet2 (f : Fr) (w : World) (e : Ending) (w' : World) : Prop :=
  ∃ (a : Option Addr) (cap : Nat), e = .returned (.agg #[.int .i64 f.K, .int .i64 f.R, .int .i64 f.S, .int .i64 f.P.K, .int .i64 f.P.V, .slice a f.E.length cap]) ∧ RowT w' a f.E ∧ (∀ x, a = some x → w.heap.size ≤ x.block) ∧ OwnT w.heap.size w' (.slice a f.E.length cap) f.E ∧ Below w.heap.size w w'

/-- Make's last step: g is laid into the result's place. -/
theorem make5_end (f : Fr) (w wr : World) (av : Option Addr) (cv : Nat) (hB : Below w.heap.size w wr) (k2 : Blk wr (w.heap.size + 2) 29 zeroBox)
    (hown : OwnT (w.heap.size + 3) wr (.slice av f.E.length cv) f.E) (hl : f.E.length ≤ 1000000) (hz : ∀ t ∈ f.E, inI t.K ∧ inI t.V) {f' : Fr} (hp : f' = f) {a : Act}
    (h6 : a.tmps[6]? = some (.pointer (some ⟨w.heap.size + 2, 0, none⟩)) := by rfl) (hd : a.defers = [] := by rfl) :
    bodyPost Try.prog Try.f16 (FrRet2 f' w) Exit.ret a
      ((((((wr.setCell ⟨w.heap.size + 2, 0, none⟩ (.int .i64 f.K)).setCell ⟨w.heap.size + 2, 1, none⟩ (.int .i64 f.R)).setCell ⟨w.heap.size + 2, 2, none⟩ (.int .i64 f.S)).setCell
        ⟨w.heap.size + 2, 3, none⟩ (.int .i64 f.P.K)).setCell ⟨w.heap.size + 2, 4, none⟩ (.int .i64 f.P.V)).setCell ⟨w.heap.size + 2, 5, none⟩ (.slice av f.E.length cv)) := by
  subst hp
  unfold zeroBox at k2
  have kk := ((((((k2.set 0 (.int .i64 f'.K)).set 1 (.int .i64 f'.R)).set 2 (.int .i64 f'.S)).set 3 (.int .i64 f'.P.K)).set 4 (.int .i64 f'.P.V)).set 5 (.slice av f'.E.length cv))
  have hb2 := (((((hB.setCell (p := ⟨w.heap.size + 2, 0, none⟩) (by simp) (.int .i64 f'.K)).setCell (p := ⟨w.heap.size + 2, 1, none⟩) (by simp) (.int .i64 f'.R)).setCell (p := ⟨w.heap.size + 2, 2, none⟩) (by simp) (.int .i64 f'.S)).setCell
    (p := ⟨w.heap.size + 2, 3, none⟩) (by simp) (.int .i64 f'.P.K)).setCell (p := ⟨w.heap.size + 2, 4, none⟩) (by simp) (.int .i64 f'.P.V)).setCell (p := ⟨w.heap.size + 2, 5, none⟩) (by simp) (.slice av f'.E.length cv)
  have ho := (((((hown.far ⟨w.heap.size + 2, 0, none⟩ (.int .i64 f'.K) (by simp)).far ⟨w.heap.size + 2, 1, none⟩ (.int .i64 f'.R) (by simp)).far ⟨w.heap.size + 2, 2, none⟩ (.int .i64 f'.S) (by simp)).far
    ⟨w.heap.size + 2, 3, none⟩ (.int .i64 f'.P.K) (by simp)).far ⟨w.heap.size + 2, 4, none⟩ (.int .i64 f'.P.V) (by simp)).far ⟨w.heap.size + 2, 5, none⟩ (.slice av f'.E.length cv) (by simp)
  generalize (((((wr.setCell _ _).setCell _ _).setCell _ _).setCell _ _).setCell _ _).setCell _ _ = W at *
  have q := kk.at
  simp at q
  refine bodyPost_ret (v := .agg #[.int .i64 f'.K, .int .i64 f'.R, .int .i64 f'.S, .int .i64 f'.P.K, .int .i64 f'.P.V, .slice av f'.E.length cv]) (by simp [results, Try.results16, go_sem, h6, q]) hd ⟨av, cv, rfl, ho.row (by omega) hz, ?_, ho.weak (by omega), hb2⟩
  intro x hx
  have := (ho.lt x.block (by rw [hx]; rfl)).1
  omega

/-- What holds on in Make: the boxes of c, f and the result. -/
def HeldM (c : Cf) (ca : Option Addr) (cc : Nat) (f : Fr) (fa : Option Addr) (fc : Nat) (w W : World) : Prop :=
  Below w.heap.size w W ∧ Blk W w.heap.size 24 (confBox c ca cc) ∧ Blk W (w.heap.size + 1) 29 (frBox f fa fc) ∧ Blk W (w.heap.size + 2) 29 zeroBox
theorem HeldM.next {c : Cf} {ca : Option Addr} {cc : Nat} {f : Fr} {fa : Option Addr} {fc : Nat} {w W W' : World} (h : HeldM c ca cc f fa fc w W) (hb : Below W.heap.size W W') : HeldM c ca cc f fa fc w W' :=
  ⟨h.1.trans (hb.mono h.1.size), h.2.1.later hb, h.2.2.1.later hb, h.2.2.2.later hb⟩
theorem HeldM.set {c : Cf} {ca : Option Addr} {cc : Nat} {f : Fr} {fa : Option Addr} {fc : Nat} {w W : World} (h : HeldM c ca cc f fa fc w W) {g : Nat} (hg : w.heap.size + 2 < g) (k : Nat) (u : Value) : HeldM c ca cc f fa fc w (W.setCell ⟨g, k, none⟩ u) :=
  ⟨h.1.setCell (by show w.heap.size ≤ g; omega) u, h.2.1.far (by show w.heap.size ≠ g; omega) u, h.2.2.1.far (by show w.heap.size + 1 ≠ g; omega) u, h.2.2.2.far (by show w.heap.size + 2 ≠ g; omega) u⟩
theorem HeldM.grown {c : Cf} {ca : Option Addr} {cc : Nat} {f : Fr} {fa : Option Addr} {fc : Nat} {w W W' : World} {row : Option Nat} (h : HeldM c ca cc f fa fc w W) (hg : W.grownBy W' row) (hr : ∀ g, row = some g → w.heap.size + 2 < g) : HeldM c ca cc f fa fc w W' :=
  ⟨below_grown h.1 h.1.size hg (fun g e => by have := hr g e; omega), h.2.1.grown hg (fun e => by have := hr _ e.symm; omega), h.2.2.1.grown hg (fun e => by have := hr _ e.symm; omega), h.2.2.2.grown hg (fun e => by have := hr _ e.symm; omega)⟩

/-- Make's variable g, boxed at g. -/
def MakeV (K R S PK PV : Int) (v : Value) : Array Value := #[.int .i64 K, .int .i64 R, .int .i64 S, .int .i64 PK, .int .i64 PV, v]

theorem makeV_set {wm : World} {g : Nat} (K R S : Int) (hx : Blk wm g 29 zeroBox) :
    Blk ((((((wm.setCell ⟨g, 0, none⟩ (.int .i64 K)).setCell ⟨g, 1, none⟩ (.int .i64 R)).setCell ⟨g, 2, none⟩ (.int .i64 S)).setCell ⟨g, 3, none⟩ (.int .i64 0)).setCell ⟨g, 4, none⟩ (.int .i64 0)).setCell ⟨g, 5, none⟩ (.slice none 0 0)) g 29 (MakeV K R S 0 0 (.slice none 0 0)) :=
  ((((((hx.set 0 (.int .i64 K)).set 1 (.int .i64 R)).set 2 (.int .i64 S)).set 3 (.int .i64 0)).set 4 (.int .i64 0)).set 5 (.slice none 0 0))

theorem sm_of {c : Cf} {ca : Option Addr} {cc : Nat} {f : Fr} {fa : Option Addr} {fc : Nat} {w W : World} (h : HeldM c ca cc f fa fc w W) : W.cell? ⟨w.heap.size + 1, 0, none⟩ = some (.int .i64 f.K) ∧ W.cell? ⟨w.heap.size + 1, 1, none⟩ = some (.int .i64 f.R) ∧ W.cell? ⟨w.heap.size + 1, 2, none⟩ = some (.int .i64 f.S) ∧ W.cell? ⟨w.heap.size, 0, none⟩ = some (.int .i64 c.N) ∧ W.cell? ⟨w.heap.size, 1, none⟩ = some (.int .i64 c.Pi) ∧ W.cell? ⟨w.heap.size, 2, none⟩ = some (.int .i64 c.E) ∧ W.cell? ⟨w.heap.size, 3, none⟩ = some (.int .i64 c.G) ∧ W.cell? ⟨w.heap.size, 4, none⟩ = some (.int .i64 c.F) ∧ W.cell? ⟨w.heap.size, 5, none⟩ = some (.slice ca c.P.length cc) :=
  ⟨by rw [h.2.2.1.at]; rfl, by rw [h.2.2.1.at]; rfl, by rw [h.2.2.1.at]; rfl, by rw [h.2.1.at]; rfl, by rw [h.2.1.at]; rfl, by rw [h.2.1.at]; rfl, by rw [h.2.1.at]; rfl, by rw [h.2.1.at]; rfl, by rw [h.2.1.at]; rfl⟩
theorem sm_next {c : Cf} {ca : Option Addr} {cc : Nat} {f : Fr} {w W W' : World} (h : W.cell? ⟨w.heap.size + 1, 0, none⟩ = some (.int .i64 f.K) ∧ W.cell? ⟨w.heap.size + 1, 1, none⟩ = some (.int .i64 f.R) ∧ W.cell? ⟨w.heap.size + 1, 2, none⟩ = some (.int .i64 f.S) ∧ W.cell? ⟨w.heap.size, 0, none⟩ = some (.int .i64 c.N) ∧ W.cell? ⟨w.heap.size, 1, none⟩ = some (.int .i64 c.Pi) ∧ W.cell? ⟨w.heap.size, 2, none⟩ = some (.int .i64 c.E) ∧ W.cell? ⟨w.heap.size, 3, none⟩ = some (.int .i64 c.G) ∧ W.cell? ⟨w.heap.size, 4, none⟩ = some (.int .i64 c.F) ∧ W.cell? ⟨w.heap.size, 5, none⟩ = some (.slice ca c.P.length cc)) (hb : Below W.heap.size W W') : W'.cell? ⟨w.heap.size + 1, 0, none⟩ = some (.int .i64 f.K) ∧ W'.cell? ⟨w.heap.size + 1, 1, none⟩ = some (.int .i64 f.R) ∧ W'.cell? ⟨w.heap.size + 1, 2, none⟩ = some (.int .i64 f.S) ∧ W'.cell? ⟨w.heap.size, 0, none⟩ = some (.int .i64 c.N) ∧ W'.cell? ⟨w.heap.size, 1, none⟩ = some (.int .i64 c.Pi) ∧ W'.cell? ⟨w.heap.size, 2, none⟩ = some (.int .i64 c.E) ∧ W'.cell? ⟨w.heap.size, 3, none⟩ = some (.int .i64 c.G) ∧ W'.cell? ⟨w.heap.size, 4, none⟩ = some (.int .i64 c.F) ∧ W'.cell? ⟨w.heap.size, 5, none⟩ = some (.slice ca c.P.length cc) := by
  obtain ⟨h0, h1, h2, h3, h4, h5, h6, h7, h8⟩ := h
  have n := fun {p : Addr} {v : Value} (e : W.cell? p = some v) => (hb.cell (p := p) (World.block_lt_of_cell? W p e)).trans e
  exact ⟨n h0, n h1, n h2, n h3, n h4, n h5, n h6, n h7, n h8⟩
theorem sm_set {c : Cf} {ca : Option Addr} {cc : Nat} {f : Fr} {w W : World} (h : W.cell? ⟨w.heap.size + 1, 0, none⟩ = some (.int .i64 f.K) ∧ W.cell? ⟨w.heap.size + 1, 1, none⟩ = some (.int .i64 f.R) ∧ W.cell? ⟨w.heap.size + 1, 2, none⟩ = some (.int .i64 f.S) ∧ W.cell? ⟨w.heap.size, 0, none⟩ = some (.int .i64 c.N) ∧ W.cell? ⟨w.heap.size, 1, none⟩ = some (.int .i64 c.Pi) ∧ W.cell? ⟨w.heap.size, 2, none⟩ = some (.int .i64 c.E) ∧ W.cell? ⟨w.heap.size, 3, none⟩ = some (.int .i64 c.G) ∧ W.cell? ⟨w.heap.size, 4, none⟩ = some (.int .i64 c.F) ∧ W.cell? ⟨w.heap.size, 5, none⟩ = some (.slice ca c.P.length cc)) {g : Nat} (hg : w.heap.size + 2 < g) (k : Nat) (u : Value) : (W.setCell ⟨g, k, none⟩ u).cell? ⟨w.heap.size + 1, 0, none⟩ = some (.int .i64 f.K) ∧ (W.setCell ⟨g, k, none⟩ u).cell? ⟨w.heap.size + 1, 1, none⟩ = some (.int .i64 f.R) ∧ (W.setCell ⟨g, k, none⟩ u).cell? ⟨w.heap.size + 1, 2, none⟩ = some (.int .i64 f.S) ∧ (W.setCell ⟨g, k, none⟩ u).cell? ⟨w.heap.size, 0, none⟩ = some (.int .i64 c.N) ∧ (W.setCell ⟨g, k, none⟩ u).cell? ⟨w.heap.size, 1, none⟩ = some (.int .i64 c.Pi) ∧ (W.setCell ⟨g, k, none⟩ u).cell? ⟨w.heap.size, 2, none⟩ = some (.int .i64 c.E) ∧ (W.setCell ⟨g, k, none⟩ u).cell? ⟨w.heap.size, 3, none⟩ = some (.int .i64 c.G) ∧ (W.setCell ⟨g, k, none⟩ u).cell? ⟨w.heap.size, 4, none⟩ = some (.int .i64 c.F) ∧ (W.setCell ⟨g, k, none⟩ u).cell? ⟨w.heap.size, 5, none⟩ = some (.slice ca c.P.length cc) := by
  obtain ⟨h0, h1, h2, h3, h4, h5, h6, h7, h8⟩ := h
  have n := fun {b o : Nat} {v : Value} (hb : b < g) (e : W.cell? ⟨b, o, none⟩ = some v) => (World.cell?_setCell_other W ⟨g, k, none⟩ ⟨b, o, none⟩ u (fun e' => by injection e' with e1; omega)).trans e
  exact ⟨n (by omega) h0, n (by omega) h1, n (by omega) h2, n (by omega) h3, n (by omega) h4, n (by omega) h5, n (by omega) h6, n (by omega) h7, n (by omega) h8⟩

attribute [local irreducible] World.alloc World.drew World.setCell

/-- The loop over the items. -/
def MakeAt (c : Cf) (ca : Option Addr) (cc : Nat) (f : Fr) (fa : Option Addr) (fc : Nat) (ns : List Int) (R s PK PV : Int) (n : Nat) (w : World) (g : Nat) (i : Value) (wx : World) : Prop :=
  ∃ (k : Nat) (v : Value), i = .int .i64 k ∧ k ≤ n ∧ HeldM c ca cc f fa fc w wx ∧ Blk wx g 29 (MakeV 3 R s PK PV v) ∧ OwnT (g + 1) wx v (makeE ns k)

theorem quo_le (y : Int) (k : Nat) (hy : 0 ≤ y) : 0 ≤ y / (1 + (k : Int)) ∧ (k = 0 → y / (1 + (k : Int)) = y) ∧ (0 < k → 2 * (y / (1 + (k : Int))) ≤ y) := by
  have a1 : 0 ≤ y / (1 + (k : Int)) := Int.ediv_nonneg hy (by omega)
  refine ⟨a1, fun e => by subst e; simp, fun h => ?_⟩
  have a2 : y / (1 + (k : Int)) * (1 + (k : Int)) ≤ y := Int.ediv_mul_le _ (by omega)
  have a3 : y / (1 + (k : Int)) * 2 ≤ y / (1 + (k : Int)) * (1 + (k : Int)) := Int.mul_le_mul_of_nonneg_left (by omega) a1
  omega

theorem tdiv_in (x : Int) (k : Nat) (hk : k ≤ 100) (h : inI x) : inI (x.tdiv (1 + (k : Int)) + k) ∧ inI (x.tdiv (1 + (k : Int))) := by
  obtain ⟨h1, h2⟩ := h
  unfold inI
  rcases Int.le_total 0 x with h | h
  · rw [Int.tdiv_eq_ediv_of_nonneg h]
    obtain ⟨a1, a2, a3⟩ := quo_le x k h
    generalize x / (1 + (k : Int)) = q at *
    rcases Nat.eq_zero_or_pos k with e | e
    · have := a2 e; omega
    · have := a3 e; omega
  · have e : x.tdiv (1 + (k : Int)) = -((-x) / (1 + (k : Int))) := by
      have := Int.neg_tdiv (-x) (1 + (k : Int))
      rw [show -(-x) = x by omega] at this
      rw [this, Int.tdiv_eq_ediv_of_nonneg (by omega)]
    rw [e]
    obtain ⟨a1, a2, a3⟩ := quo_le (-x) k (by omega)
    generalize (-x) / (1 + (k : Int)) = q at *
    rcases Nat.eq_zero_or_pos k with e | e
    · have := a2 e; omega
    · have := a3 e; omega

theorem makeE_in (ns : List Int) (k : Nat) : ∀ t ∈ makeE ns k, inI t.K ∧ inI t.V := by
  intro t ht
  have := makeE_all ns k t ht
  unfold itemB at this
  unfold inI
  split at this
  · simp at this; omega
  · split at this
    · simp at this; omega
    · split at this
      · simp at this; omega
      · simp at this

set_option maxHeartbeats 6400000 in
theorem make5_any2 (c : Cf) (ca : Option Addr) (cc : Nat) (f : Fr) (fa : Option Addr) (fc : Nat) (na : Option Addr) (ns : List Int) (nc : Nat) (w : World) (hc : c.Ok) (hns : Row w na ns) (iK : inI f.K) (iR : inI f.R) (iS : inI f.S) (iV : inI f.P.V) :
    Calls Try.prog 16 #[.agg #[.int .i64 c.N, .int .i64 c.Pi, .int .i64 c.E, .int .i64 c.G, .int .i64 c.F, .slice ca c.P.length cc], .agg #[.int .i64 f.K, .int .i64 f.R, .int .i64 f.S, .int .i64 f.P.K, .int .i64 f.P.V, .slice fa f.E.length fc], .slice na ns.length nc] w (FrRet2 (makeF c f ns) w) := by
  have n6 := hc.n6; have n12 := hc.n12; have n3 := hc.len
  have hsl : 6 ≤ slotsI c ∧ slotsI c ≤ 15 := by unfold slotsI; omega
  obtain ⟨sl0, sl1⟩ := hsl
  obtain ⟨wn, hwn⟩ : ∃ wn, wn = ((w.alloc (.cells #[.int .i64 c.N, .int .i64 c.Pi, .int .i64 c.E, .int .i64 c.G, .int .i64 c.F, .slice ca c.P.length cc] 24)).alloc (.cells #[.int .i64 f.K, .int .i64 f.R, .int .i64 f.S, .int .i64 f.P.K, .int .i64 f.P.V, .slice fa f.E.length fc] 29)).alloc (.cells zeroBox 29) := ⟨_, rfl⟩
  have hH : HeldM c ca cc f fa fc w wn := by
    rw [hwn]
    exact ⟨((alloc_below w _).alloc (by simp) _).alloc (by simp; omega) _, ((Blk.new w _ _).alloc _).alloc _, (Blk.newAt _ _ (by simp)).alloc _, Blk.newAt _ _ (by simp)⟩
  have hwn' := hwn
  unfold zeroBox at hwn'
  go_enter Try.func16, Try.ntmps16
  go_upto_region 1 with fail
  rw [← hwn']
  clear hwn hwn'
  go_cut [7] (fun s7 wx => ∃ g, s7 = .pointer (some ⟨g, 0, none⟩) ∧ HeldM c ca cc f fa fc w wx ∧ w.heap.size + 2 < g ∧ Blk wx g 29 (MakeV (1 + f.K % 3) (f.R % 65536) (f.S % slotsI c) 0 0 (.slice none 0 0)))
  case first =>
    have hg := hH.2.2.2.lt
    have HS := Lib.hid (fun W => rslots_any c ca cc W hc)
    have z1 : IntKind.i64.wrap (1 + f.K % 3) = 1 + f.K % 3 := wrap_in _ (by omega) (by omega)
    generalize slotsI c = sl at *
    go_region_held3 (fun W => W.cell? ⟨w.heap.size + 1, 0, none⟩ = some (.int .i64 f.K) ∧ W.cell? ⟨w.heap.size + 1, 1, none⟩ = some (.int .i64 f.R) ∧ W.cell? ⟨w.heap.size + 1, 2, none⟩ = some (.int .i64 f.S) ∧ W.cell? ⟨w.heap.size, 0, none⟩ = some (.int .i64 c.N) ∧ W.cell? ⟨w.heap.size, 1, none⟩ = some (.int .i64 c.Pi) ∧ W.cell? ⟨w.heap.size, 2, none⟩ = some (.int .i64 c.E) ∧ W.cell? ⟨w.heap.size, 3, none⟩ = some (.int .i64 c.G) ∧ W.cell? ⟨w.heap.size, 4, none⟩ = some (.int .i64 c.F) ∧ W.cell? ⟨w.heap.size, 5, none⟩ = some (.slice ca c.P.length cc))
      (first | assumption | exact sm_of (hH.next (Below.refl _ _).drew) | exact sm_of hM | exact sm_of (hM.next (alloc_below _ _)) | exact sm_of ((hH.next (alloc_below wn _)).next (Below.refl _ _).drew) | exact sm_of ((((((hM.set hg 0 _).set hg 1 _).set hg 2 _).set hg 3 _).set hg 4 _).set hg 5 _))
      (first
      | (go_at_call 19; refine (within5_any _ _ _ ?_ ?_).mono ?_; omega; omega; rintro e wl ⟨rfl, rfl⟩)
      | (go_at_call 20; refine (HS.out _).mono ?_; rintro e wm ⟨rfl, hbm⟩; (try have hx := (Blk.drew1 (Blk.new wn 29 zeroBox)).later hbm); (try have hxq := hx.at); (try have hxf := hx.frozen); (try unfold zeroBox at hxq); (first | (have hM := (hH.next (Below.refl _ _).drew).next hbm) | (have hM := ((hH.next (alloc_below wn _)).next (Below.refl _ _).drew).next hbm))))
    all_goals go_wp2_with fail
    all_goals go_meet
    all_goals first
      | exact ⟨_, rfl, hM.next (alloc_below _ _), hM.2.2.2.lt, Blk.new wm _ _⟩
      | exact ⟨_, rfl, (((((hM.set hg 0 _).set hg 1 _).set hg 2 _).set hg 3 _).set hg 4 _).set hg 5 _, hg, makeV_set _ _ _ hx⟩
  case rest =>
    obtain ⟨g, rfl, hM, hgt, hg⟩ := hcut
    clear hH
    have s0 : 0 ≤ f.S % slotsI c := Int.emod_nonneg _ (by omega)
    have s1 : f.S % slotsI c < slotsI c := Int.emod_lt_of_pos _ (by omega)
    have HKd := Lib.hid (show makeK c f = if c.N ≤ f.S % slotsI c then 3 else 1 + f.K % 3 from rfl)
    have HFd := Lib.hid (show makeF c f ns = if makeK c f = 3 then ⟨3, f.R % 65536, f.S % slotsI c, itemOf f.P.V true, makeE ns (if f.S % slotsI c < c.N then (slotsI c).toNat else 0)⟩ else ⟨makeK c f, f.R % 65536, f.S % slotsI c, ⟨0, 0⟩, []⟩ from rfl)
    generalize f.S % slotsI c = s at *
    generalize f.R % 65536 = R at *
    have c0 := hM.2.1.at
    unfold confBox at c0
    have g0 := hg.at
    unfold MakeV at g0
    have gf := hg.frozen
    go_upto_if 27 with fail
    go_cut [] (fun wx => HeldM c ca cc f fa fc w wx ∧ Blk wx g 29 (MakeV (makeK c f) R s 0 0 (.slice none 0 0)))
    case first =>
      by_cases hn : c.N ≤ s
      · have d1 : decide (c.N ≤ s) = true := by simpa using hn
        rw [if_pos hn] at HKd
        go_wp2_with fail
        go_meet
        exact ⟨hM.set hgt 0 _, by rw [HKd.out]; exact hg.set 0 _⟩
      · have d1 : decide (c.N ≤ s) = false := by simpa using hn
        rw [if_neg hn] at HKd
        go_wp2_with fail
        go_meet
        exact ⟨hM, by rw [HKd.out]; exact hg⟩
    case rest =>
      clear hM hg c0 g0 gf
      obtain ⟨hM, hg⟩ := hcut
      have f0 := hM.2.2.1.at
      unfold frBox at f0
      by_cases h3 : makeK c f = 3
      · rw [if_pos h3] at HFd
        rw [h3] at hg
        clear h3 HKd
        have g0 := hg.at
        unfold MakeV at g0
        have gf := hg.frozen
        have HIt := Lib.hid (fun W => item5_any f.P.V true W iV.1 iV.2)
        generalize itemOf f.P.V true = pt at *
        go_wp2_with fail
        refine (HIt.out _).mono ?_
        rintro e wq ⟨rfl, hb⟩
        replace hM := hM.next hb
        replace hg := hg.later hb
        clear hb g0 gf f0 HIt
        have g0 := hg.at
        unfold MakeV at g0
        have gf := hg.frozen
        go_wp2
        go_loopw [8, 9] (fun i _ w' => MakeAt c ca cc f fa fc ns R s pt.K pt.V (if s < c.N then (slotsI c).toNat else 0) w g i w') (fun i _ _ => 15 - (intOf i).toNat)
        case atStart => exact ⟨0, _, rfl, Nat.zero_le _, (hM.set hgt 3 _).set hgt 4 _, (hg.set 3 (.int .i64 pt.K)).set 4 (.int .i64 pt.V), OwnT.nil _ _⟩
        case round =>
          clear hM hg g0 gf
          obtain ⟨k, v, rfl, hk, hM, hg, hown⟩ := hrel
          have c0 := hM.2.1.at
          unfold confBox at c0
          have HSl := Lib.hid (fun W => rslots_any c ca cc W hc)
          by_cases hs : s < c.N
          · rw [if_pos hs] at hk HFd
            have d2 : decide (s < c.N) = true := by simpa using hs
            by_cases hlt : (k : Int) < slotsI c
            · have d1 : decide ((k : Int) < slotsI c) = true := by simpa using hlt
              go_wp2_with fail
              refine (HSl.out _).mono ?_
              rintro e wp ⟨rfl, hb⟩
              replace hM := hM.next hb
              replace hg := hg.later hb
              replace hown := hown.later hb
              clear hb c0
              have c0 := hM.2.1.at
              unfold confBox at c0
              have g0 := hg.at
              unfold MakeV at g0
              have gf := hg.frozen
              have HS := Lib.hid (makeE_succ ns k)
              have hll : (makeE ns k).length ≤ 15 := by rw [makeE_len]; omega
              have hglt := hg.lt
              have hol := hown.lt
              by_cases hn : 0 < ns.length
              · have d3 : decide (0 < ns.length) = true := by simpa using hn
                obtain ⟨j, hj⟩ : ∃ j, k % ns.length = j := ⟨_, rfl⟩
                have hix : j < ns.length := by rw [← hj]; exact Nat.mod_lt _ hn
                obtain ⟨b, off, rfl, hbl, hcell, hz1, hz2⟩ := (hns.later hM.1).get j hix
                have he : echoN ns k = ns[j].tdiv (1 + (k : Int)) + k := by unfold echoN; rw [if_pos hn, hj, List.getD_eq_getElem?_getD, List.getElem?_eq_getElem hix]; rfl
                have hti := tdiv_in ns[j] k (by omega) ⟨hz1, hz2⟩
                rw [he] at HS
                have HI2 := Lib.hid (fun W => item5_any (ns[j].tdiv (1 + (k : Int)) + k) false W hti.1.1 hti.1.2)
                have r1 : (k : Int) % (ns.length : Int) = (j : Int) := by rw [← hj]; omega
                have r2 : (k : Int).tmod (ns.length : Int) = (j : Int) := by rw [Int.tmod_eq_emod_of_nonneg (by omega)]; exact r1
                have w1 : wrap64 (ns[j].tdiv (1 + (k : Int))) = ns[j].tdiv (1 + (k : Int)) := IntWalk.wrap64_in _ hti.2
                have w2 : wrap64 (ns[j].tdiv (1 + (k : Int)) + k) = ns[j].tdiv (1 + (k : Int)) + k := IntWalk.wrap64_in _ hti.1
                have w3 : IntKind.i64.wrap (ns[j].tdiv (1 + (k : Int))) = ns[j].tdiv (1 + (k : Int)) := wrap_in _ hti.2.1 hti.2.2
                have w4 : IntKind.i64.wrap (ns[j].tdiv (1 + (k : Int)) + k) = ns[j].tdiv (1 + (k : Int)) + k := wrap_in _ hti.1.1 hti.1.2
                clear hj
                generalize ns[j] = x at *
                generalize itemOf (x.tdiv (1 + (k : Int)) + k) false = t at *
                generalize makeE ns k = TS at *
                obtain ⟨av, cv, rfl⟩ := hown.form
                clear he
                go_wp2_with fail
                go_region_law (first
                  | (refine step_appT _ (by rfl) (.tmp 68) (.tmp 71) (by rfl) (g + 1) (.slice av TS.length cv) TS (by simp [Act.eval]) (hown.later ((from_drew hb).alloc (from_drew hb).size _)) wl.heap.size 1 t (by simp [Act.eval]) (heap_alloc_new _ _) (by omega) (by have h0 : wp.heap.size ≤ wl.heap.size := (from_drew hb).size; simp; omega) ?_; intro g' cap' w2 h1' h2' h3' h4'; have k3w := (Blk.alloc k3l (.cells #[.int .i64 t.K, .int .i64 t.V] 26)).grown h2' (fun e => by have := (hol _ e.symm).1; omega); have q3w := k3w.at 5; have f3w := k3w.frozen 5; unfold MakeV at q3w)
                  | (go_simp; go_at_call 33; refine (HI2.out _).mono ?_; rintro e wl ⟨rfl, hb⟩; have k3l := hg.later (from_drew hb); have q3l := k3l.at 5; have q3m := fun o : Obj => (k3l.alloc o).at 5; unfold MakeV at q3l q3m))
                all_goals
                  have h0 : wp.heap.size ≤ wl.heap.size := (from_drew hb).size
                  have hMl := (hM.next (from_drew hb)).next (alloc_below wl (.cells #[.int .i64 t.K, .int .i64 t.V] 26))
                  go_wp2
                  go_roundw
                  case rel =>
                    refine ⟨k + 1, _, by go_num, by rw [if_pos hs]; omega, (hMl.grown h2' (fun g' e => by have := (hol g' e).1; omega)).set hgt 5 _, k3w.set 5 _, ?_⟩
                    rw [HS.out]
                    exact h1'.far ⟨g, 5, none⟩ _ (by simp)
                  case measure => simp [intOf]; omega
              · have d3 : decide (0 < ns.length) = false := by simpa using hn
                have he : echoN ns k = (k : Int) := by unfold echoN; rw [if_neg hn]
                rw [he] at HS
                have HI2 := Lib.hid (fun W => item5_any (k : Int) false W (by omega) (by omega))
                generalize itemOf (k : Int) false = t at *
                generalize makeE ns k = TS at *
                obtain ⟨av, cv, rfl⟩ := hown.form
                clear he
                go_wp2_with fail
                go_region_law (first
                  | (refine step_appT _ (by rfl) (.tmp 68) (.tmp 71) (by rfl) (g + 1) (.slice av TS.length cv) TS (by simp [Act.eval]) (hown.later ((from_drew hb).alloc (from_drew hb).size _)) wl.heap.size 1 t (by simp [Act.eval]) (heap_alloc_new _ _) (by omega) (by have h0 : wp.heap.size ≤ wl.heap.size := (from_drew hb).size; simp; omega) ?_; intro g' cap' w2 h1' h2' h3' h4'; have k3w := (Blk.alloc k3l (.cells #[.int .i64 t.K, .int .i64 t.V] 26)).grown h2' (fun e => by have := (hol _ e.symm).1; omega); have q3w := k3w.at 5; have f3w := k3w.frozen 5; unfold MakeV at q3w)
                  | (go_simp; go_at_call 33; refine (HI2.out _).mono ?_; rintro e wl ⟨rfl, hb⟩; have k3l := hg.later (from_drew hb); have q3l := k3l.at 5; have q3m := fun o : Obj => (k3l.alloc o).at 5; unfold MakeV at q3l q3m))
                all_goals
                  have h0 : wp.heap.size ≤ wl.heap.size := (from_drew hb).size
                  have hMl := (hM.next (from_drew hb)).next (alloc_below wl (.cells #[.int .i64 t.K, .int .i64 t.V] 26))
                  go_wp2
                  go_roundw
                  case rel =>
                    refine ⟨k + 1, _, by go_num, by rw [if_pos hs]; omega, (hMl.grown h2' (fun g' e => by have := (hol g' e).1; omega)).set hgt 5 _, k3w.set 5 _, ?_⟩
                    rw [HS.out]
                    exact h1'.far ⟨g, 5, none⟩ _ (by simp)
                  case measure => simp [intOf]; omega
            · have d1 : decide ((k : Int) < slotsI c) = false := by simpa using hlt
              have hkk : (slotsI c).toNat = k := by omega
              rw [hkk] at HFd
              clear hkk
              go_wp2_with fail
              refine (HSl.out _).mono ?_
              rintro e wp ⟨rfl, hb⟩
              replace hM := hM.next hb
              replace hg := hg.later hb
              replace hown := (hown.later hb).weak (show w.heap.size + 3 ≤ g + 1 by omega)
              clear hb c0
              have c0 := hM.2.1.at
              unfold confBox at c0
              have hin := makeE_in ns k
              have hll : (makeE ns k).length ≤ 1000000 := by rw [makeE_len]; omega
              generalize makeE ns k = TS at *
              obtain ⟨av, cv, rfl⟩ := hown.form
              have g0 := hg.at
              unfold MakeV at g0
              have z0 := hM.2.2.2.at
              unfold zeroBox at z0
              have zf := hM.2.2.2.frozen
              go_wp2
              exact make5_end ⟨3, R, s, pt, TS⟩ w _ av cv hM.1 hM.2.2.2 hown hll hin HFd.out
          · rw [if_neg hs] at hk HFd
            have d2 : decide (s < c.N) = false := by simpa using hs
            obtain rfl : k = 0 := by omega
            have d1 : decide (0 < slotsI c) = true := by simp; omega
            go_wp2_with fail
            refine (HSl.out _).mono ?_
            rintro e wp ⟨rfl, hb⟩
            replace hM := hM.next hb
            replace hg := hg.later hb
            replace hown := (hown.later hb).weak (show w.heap.size + 3 ≤ g + 1 by omega)
            clear hb c0
            have c0 := hM.2.1.at
            unfold confBox at c0
            have hin := makeE_in ns 0
            have hll : (makeE ns 0).length ≤ 1000000 := by rw [makeE_len]; omega
            generalize makeE ns 0 = TS at *
            obtain ⟨av, cv, rfl⟩ := hown.form
            have g0 := hg.at
            unfold MakeV at g0
            have z0 := hM.2.2.2.at
            unfold zeroBox at z0
            have zf := hM.2.2.2.frozen
            go_wp2
            exact make5_end ⟨3, R, s, pt, TS⟩ w _ av cv hM.1 hM.2.2.2 hown hll hin HFd.out
      · rw [if_neg h3] at HFd
        have d1 : (makeK c f != 3) = true := by simpa using h3
        clear h3 HKd
        generalize makeK c f = K at *
        have g0 := hg.at
        unfold MakeV at g0
        have z0 := hM.2.2.2.at
        unfold zeroBox at z0
        have zf := hM.2.2.2.frozen
        go_wp2
        exact make5_end ⟨K, R, s, ⟨0, 0⟩, []⟩ w _ none 0 hM.1 hM.2.2.2 (OwnT.nil _ _) (by simp) (by simp) HFd.out

theorem make5_any (c : Cf) (ca : Option Addr) (cc : Nat) (f : Fr) (fa : Option Addr) (fc : Nat) (na : Option Addr) (ns : List Int) (nc : Nat) (w : World) (hc : c.Ok) (hns : Row w na ns) (iK : inI f.K) (iR : inI f.R) (iS : inI f.S) (iV : inI f.P.V) :
    Calls Try.prog 16 #[.agg #[.int .i64 c.N, .int .i64 c.Pi, .int .i64 c.E, .int .i64 c.G, .int .i64 c.F, .slice ca c.P.length cc], .agg #[.int .i64 f.K, .int .i64 f.R, .int .i64 f.S, .int .i64 f.P.K, .int .i64 f.P.V, .slice fa f.E.length fc], .slice na ns.length nc] w (FrRet (makeF c f ns) w) :=
  (make5_any2 c ca cc f fa fc na ns nc w hc hns iK iR iS iV).mono fun e w' ⟨a, cap, h1, h2, h3, _, h4⟩ => ⟨a, cap, h1, h2, h3, h4⟩

end Go.Proofs.Ytafcjdcmbklfkaa

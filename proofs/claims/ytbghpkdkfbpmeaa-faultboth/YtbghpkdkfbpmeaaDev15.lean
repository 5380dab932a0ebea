/-
  Contracts of package frame, seventh part: a frame out of numbers.
-/
import Derived.Test.YtbghpkdkfbpmeaaDev14
namespace Go.Proofs.Ytbghpkdkfbpmeaa
open Go.RowKit Plait
set_option maxRecDepth 100000
set_option linter.unusedVariables false

/-- What a call answers that makes a frame, of whose items the whole block is known. -/
def FrOwn (f : Fr) (base : Nat) (w : World) (e : Ending) (w' : World) : Prop :=
  ∃ (a : Option Addr) (cap : Nat), e = .returned (.agg #[.int .i64 f.K, .int .i64 f.R, .int .i64 f.S, .int .i64 f.P.K, .int .i64 f.P.V, .slice a f.E.length cap]) ∧ OwnT base w' (.slice a f.E.length cap) f.E ∧ Below w.heap.size w w'

theorem row_drop {w : World} {g off : Nat} {zs : List Int} (h : Row w (some ⟨g, off, none⟩) zs) (k : Nat) : Row w (some ⟨g, off + k, none⟩) (zs.drop k) := by
  obtain ⟨h1, h2, h3⟩ := h
  refine ⟨by rw [List.length_drop]; omega, fun z hz => h2 z (List.mem_of_mem_drop hz), ?_⟩
  rcases h3 with h3 | ⟨b, o, e, hlt, hc⟩
  · left; rw [h3]; simp
  · right
    injection e with e
    injection e with e1 e2
    subst e1 e2
    refine ⟨g, off + k, rfl, hlt, fun i hi => ?_⟩
    rw [List.length_drop] at hi
    have := hc (k + i) (by omega)
    rw [List.getElem_drop]
    rw [show off + k + i = off + (k + i) by omega]
    exact this

/-- The first five numbers, where they lie. -/
def Five (W : World) (g : Nat) (z0 z1 z2 z3 z4 : Int) : Prop :=
  W.cell? ⟨g, 0, none⟩ = some (.int .i64 z0) ∧ W.cell? ⟨g, 1, none⟩ = some (.int .i64 z1) ∧ W.cell? ⟨g, 2, none⟩ = some (.int .i64 z2) ∧ W.cell? ⟨g, 3, none⟩ = some (.int .i64 z3) ∧ W.cell? ⟨g, 4, none⟩ = some (.int .i64 z4)

theorem five_of {w : World} {g : Nat} {zs : List Int} (h : Row w (some ⟨g, 0, none⟩) zs) (h5 : 5 ≤ zs.length) : g < w.heap.size ∧ Five w g (zs.getD 0 0) (zs.getD 1 0) (zs.getD 2 0) (zs.getD 3 0) (zs.getD 4 0) := by
  obtain ⟨_, _, h3⟩ := h
  rcases h3 with h3 | ⟨b, o, e, hlt, hc⟩
  · rw [h3] at h5; simp at h5
  · injection e with e
    injection e with e1 e2
    subst e1 e2
    have k : ∀ i, i < 5 → w.cell? ⟨g, i, none⟩ = some (.int .i64 (zs.getD i 0)) := fun i hi => by
      have := hc i (by omega)
      rw [Nat.zero_add] at this
      rw [this, List.getD_eq_getElem?_getD, List.getElem?_eq_getElem (by omega)]
      rfl
    exact ⟨hlt, k 0 (by omega), k 1 (by omega), k 2 (by omega), k 3 (by omega), k 4 (by omega)⟩

theorem Five.next {w w' : World} {g : Nat} {z0 z1 z2 z3 z4 : Int} (h : Five w g z0 z1 z2 z3 z4) (hg : g < w.heap.size) (hb : Below w.heap.size w w') : Five w' g z0 z1 z2 z3 z4 := by
  obtain ⟨h0, h1, h2, h3, h4⟩ := h
  have n := fun {o : Nat} {v : Value} (e : w.cell? ⟨g, o, none⟩ = some v) => (hb.cell (p := ⟨g, o, none⟩) hg).trans e
  exact ⟨n h0, n h1, n h2, n h3, n h4⟩
theorem Five.set {w : World} {g : Nat} {z0 z1 z2 z3 z4 : Int} (h : Five w g z0 z1 z2 z3 z4) {b : Nat} (hne : g < b) (k : Nat) (u : Value) : Five (w.setCell ⟨b, k, none⟩ u) g z0 z1 z2 z3 z4 := by
  obtain ⟨h0, h1, h2, h3, h4⟩ := h
  have n := fun {o : Nat} {v : Value} (e : w.cell? ⟨g, o, none⟩ = some v) => (World.cell?_setCell_other w ⟨b, k, none⟩ ⟨g, o, none⟩ u (fun e' => by injection e' with e1; omega)).trans e
  exact ⟨n h0, n h1, n h2, n h3, n h4⟩

/-- frameOf's last step. -/
theorem frameOf_end (f : Fr) (w wr : World) (av : Option Addr) (cv : Nat) (hB : Below w.heap.size w wr) (k2 : Blk wr w.heap.size 82 zeroBox)
    (hown : OwnT (w.heap.size + 1) wr (.slice av f.E.length cv) f.E) {f' : Fr} (hp : f' = f) {a : Act}
    (h6 : a.tmps[2]? = some (.pointer (some ⟨w.heap.size, 0, none⟩)) := by rfl) (hd : a.defers = [] := by rfl) :
    bodyPost Try.prog Try.f65 (FrOwn f' (w.heap.size + 1) w) Exit.ret a
      ((((((wr.setCell ⟨w.heap.size, 0, none⟩ (.int .i64 f.K)).setCell ⟨w.heap.size, 1, none⟩ (.int .i64 f.R)).setCell ⟨w.heap.size, 2, none⟩ (.int .i64 f.S)).setCell
        ⟨w.heap.size, 3, none⟩ (.int .i64 f.P.K)).setCell ⟨w.heap.size, 4, none⟩ (.int .i64 f.P.V)).setCell ⟨w.heap.size, 5, none⟩ (.slice av f.E.length cv)) := by
  subst hp
  unfold zeroBox at k2
  have kk := ((((((k2.set 0 (.int .i64 f'.K)).set 1 (.int .i64 f'.R)).set 2 (.int .i64 f'.S)).set 3 (.int .i64 f'.P.K)).set 4 (.int .i64 f'.P.V)).set 5 (.slice av f'.E.length cv))
  have hb2 := (((((hB.setCell (p := ⟨w.heap.size, 0, none⟩) (by simp) (.int .i64 f'.K)).setCell (p := ⟨w.heap.size, 1, none⟩) (by simp) (.int .i64 f'.R)).setCell (p := ⟨w.heap.size, 2, none⟩) (by simp) (.int .i64 f'.S)).setCell
    (p := ⟨w.heap.size, 3, none⟩) (by simp) (.int .i64 f'.P.K)).setCell (p := ⟨w.heap.size, 4, none⟩) (by simp) (.int .i64 f'.P.V)).setCell (p := ⟨w.heap.size, 5, none⟩) (by simp) (.slice av f'.E.length cv)
  have ho := (((((hown.far ⟨w.heap.size, 0, none⟩ (.int .i64 f'.K) (by simp)).far ⟨w.heap.size, 1, none⟩ (.int .i64 f'.R) (by simp)).far ⟨w.heap.size, 2, none⟩ (.int .i64 f'.S) (by simp)).far
    ⟨w.heap.size, 3, none⟩ (.int .i64 f'.P.K) (by simp)).far ⟨w.heap.size, 4, none⟩ (.int .i64 f'.P.V) (by simp)).far ⟨w.heap.size, 5, none⟩ (.slice av f'.E.length cv) (by simp)
  generalize (((((wr.setCell _ _).setCell _ _).setCell _ _).setCell _ _).setCell _ _).setCell _ _ = W at *
  have q := kk.at
  simp at q
  exact bodyPost_ret (v := .agg #[.int .i64 f'.K, .int .i64 f'.R, .int .i64 f'.S, .int .i64 f'.P.K, .int .i64 f'.P.V, .slice av f'.E.length cv]) (by simp [results, Try.results65, go_sem, h6, q]) hd ⟨av, cv, rfl, ho, hb2⟩

theorem size_ad (w : World) (o : Obj) : (w.alloc o).drew.heap.size = w.heap.size + 1 := by show (w.alloc o).heap.size = _; simp

attribute [local irreducible] World.alloc World.drew World.setCell

set_option maxHeartbeats 3200000 in
theorem fframeOf_any (g : Nat) (zs : List Int) (cap : Nat) (w : World) (hrow : Row w (some ⟨g, 0, none⟩) zs) (h5 : 5 ≤ zs.length) (hcap : zs.length ≤ cap) (hl : zs.length ≤ 600000) (hcl : cap ≤ 9223372036854775807) :
    Calls Try.prog 65 #[.slice (some ⟨g, 0, none⟩) zs.length cap] w (FrOwn (frN zs) (w.heap.size + 1) w) := by
  have HF := Lib.hid (show frN zs = ⟨zs.getD 0 0, zs.getD 1 0, zs.getD 2 0, ⟨zs.getD 3 0, zs.getD 4 0⟩, itemsN (zs.drop 5)⟩ from rfl)
  obtain ⟨hg, hF⟩ := five_of hrow h5
  have hB0 : Below w.heap.size w (w.alloc (.cells zeroBox 82)) := alloc_below w _
  have hZ0 : Blk (w.alloc (.cells zeroBox 82)) w.heap.size 82 zeroBox := Blk.new w _ _
  have hr0 := ((hrow.later hB0).drew1)
  have hF0 := hF.next hg hB0
  have hgn : g < (w.alloc (.cells zeroBox 82)).heap.size := Nat.lt_of_lt_of_le hg hB0.size
  have hd : Row (w.alloc (.cells zeroBox 82)).drew (if cap = 5 then some ⟨g, 0, none⟩ else some ⟨g, 5, none⟩) (zs.drop 5) := by
    split
    · rw [List.drop_of_length_le (by omega)]
      exact Row.empty _ _
    · simpa using row_drop hr0 5
  by_cases hc5 : cap = 5
  all_goals
    (first | rw [if_pos hc5] at hd | rw [if_neg hc5] at hd)
    have HI := Lib.hid (fun cp => fitemsOf_any _ (zs.drop 5) cp _ hd (by rw [List.length_drop]; omega))
    have hdl : (zs.drop 5).length = zs.length - 5 := List.length_drop
    rw [hdl] at HI
    have i0 : (0 : Int) < (zs.length : Int) := by omega
    have j0 : 0 < zs.length := by omega
    have i1 : (1 : Int) < (zs.length : Int) := by omega
    have j1 : 1 < zs.length := by omega
    have i2 : (2 : Int) < (zs.length : Int) := by omega
    have j2 : 2 < zs.length := by omega
    have i3 : (3 : Int) < (zs.length : Int) := by omega
    have j3 : 3 < zs.length := by omega
    have i4 : (4 : Int) < (zs.length : Int) := by omega
    have j4 : 4 < zs.length := by omega
    have s5 : (5 : Int) ≤ (zs.length : Int) := by omega
    have s6 : (zs.length : Int) ≤ (cap : Int) := by omega
    generalize zs.getD 0 0 = z0 at *
    generalize zs.getD 1 0 = z1 at *
    generalize zs.getD 2 0 = z2 at *
    generalize zs.getD 3 0 = z3 at *
    generalize zs.getD 4 0 = z4 at *
    clear hr0 hd hdl hrow hF
    go_enter Try.func65, Try.ntmps65
    go_wp2_with fail
    go_region_held3 (fun W => W.cell? ⟨g, 0, none⟩ = some (.int .i64 z0) ∧ W.cell? ⟨g, 1, none⟩ = some (.int .i64 z1) ∧ W.cell? ⟨g, 2, none⟩ = some (.int .i64 z2) ∧ W.cell? ⟨g, 3, none⟩ = some (.int .i64 z3) ∧ W.cell? ⟨g, 4, none⟩ = some (.int .i64 z4))
      (first | exact hF0.next hgn (Below.refl _ _).drew | assumption | exact hFm | exact (((((hFm.set hg 0 _).set hg 1 _).set hg 2 _).set hg 3 _).set hg 4 _).set hg 5 _)
      (first
      | (go_at_call 76; refine (HI.out _).mono ?_; rintro e wm ⟨v, rfl, hown, hbm⟩; rw [size_ad] at hown; replace hbm := from_drew hbm; have hFm := hF0.next hgn hbm; have hxm := hZ0.later hbm; have hxq := hxm.at; have hxf := hxm.frozen; unfold zeroBox at hxq; obtain ⟨av, cv, rfl⟩ := hown.form))
    all_goals go_wp2_with fail
    all_goals exact frameOf_end ⟨z0, z1, z2, ⟨z3, z4⟩, itemsN (zs.drop 5)⟩ w wm av cv (hB0.trans (hbm.mono hB0.size)) hxm hown HF.out

end Go.Proofs.Ytbghpkdkfbpmeaa

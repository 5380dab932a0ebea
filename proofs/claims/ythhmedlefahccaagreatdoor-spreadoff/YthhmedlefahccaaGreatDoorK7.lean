/-
  Contracts of package frame, sixth part: items and frames out of numbers.
-/
import Derived.Test.YthhmedlefahccaaGreatDoorK6
import Derived.Test.YthhmedlefahccaaGreatDoorK1
namespace Go.Proofs.YthhmedlefahccaaGreatDoor
open Go.RowKit Plait
set_option maxRecDepth 100000
set_option linter.unusedVariables false

/-- The first k items. -/
def itemsK (zs : List Int) (k : Nat) : List It := (List.range k).map fun i => ⟨zs.getD (2 * i) 0, zs.getD (2 * i + 1) 0⟩
theorem itemsK_len (zs : List Int) (k : Nat) : (itemsK zs k).length = k := by simp [itemsK]
theorem itemsK_succ (zs : List Int) (k : Nat) (h : 2 * k + 1 < zs.length) : itemsK zs (k + 1) = itemsK zs k ++ [⟨zs[2 * k], zs[2 * k + 1]⟩] := by
  unfold itemsK
  rw [List.range_succ, List.map_append]
  simp only [List.map_cons, List.map_nil]
  rw [List.getD_eq_getElem?_getD, List.getElem?_eq_getElem (by omega : 2 * k < zs.length), List.getD_eq_getElem?_getD, List.getElem?_eq_getElem h]
  rfl

/-- The loop of itemsOf. -/
def ItemsTo (zs : List Int) (w : World) (v i : Value) (w' : World) : Prop :=
  ∃ k p : Nat, p = 2 * k ∧ p ≤ zs.length ∧ i = .int .i64 p ∧ OwnT w.heap.size w' v (itemsK zs k) ∧ Below w.heap.size w w'

set_option maxHeartbeats 3200000 in
theorem fitemsOf_any (a : Option Addr) (zs : List Int) (cap : Nat) (w : World) (hrow : Row w a zs) (hl : zs.length ≤ 600000) :
    Calls Tryz.prog 153 #[.slice a zs.length cap] w fun e w' => ∃ v, e = .returned v ∧ OwnT w.heap.size w' v (itemsN zs) ∧ Below w.heap.size w w' := by
  have HF := Lib.hid (show itemsN zs = itemsK zs (zs.length / 2) from rfl)
  go_enter Tryz.func153, Tryz.ntmps153
  go_wp2
  go_loopw [3, 4] (fun v i w' => ItemsTo zs w v i w') (fun _ i _ => zs.length - (intOf i).toNat)
  case atStart => exact ⟨0, 0, rfl, Nat.zero_le _, rfl, OwnT.nil _ _, Below.refl _ _⟩
  case round =>
    obtain ⟨k, p, hp, hpl, rfl, hown, hB⟩ := hrel
    have Hp := Lib.hid hp
    clear hp
    by_cases hlt : p + 1 < zs.length
    · have d1 : decide ((p : Int) + 1 < (zs.length : Int)) = true := by simp; omega
      have d2 : decide (p + 1 < zs.length) = true := by simpa using hlt
      obtain ⟨b, off, rfl, hbl, c1, z1, z2⟩ := (hrow.later hB).get p (Nat.lt_of_succ_lt hlt)
      obtain ⟨b', off', he, _, c2, z3, z4⟩ := (hrow.later hB).get (p + 1) hlt
      injection he with he
      injection he with e1 e2
      subst e1 e2
      have HS := Lib.hid (show itemsK zs (k + 1) = itemsK zs k ++ [⟨zs[p], zs[p + 1]⟩] by have hp := Hp.out; subst hp; exact itemsK_succ zs k hlt)
      have hll : (itemsK zs k).length ≤ 300000 := by rw [itemsK_len]; have := Hp.out; omega
      have g0 : (0 : Int) ≤ (p : Int) := by omega
      have g1 : (p : Int) < (zs.length : Int) := by omega
      have g2 : (p : Int) + 1 < (zs.length : Int) := by omega
      have g3 : (0 : Int) ≤ (p : Int) + 1 := by omega
      have z0 : IntKind.i64.wrap ((p : Int) + 1) = (p : Int) + 1 := wrap_in _ (by omega) (by omega)
      generalize zs[p] = x at *
      generalize zs[p + 1] = y at *
      generalize itemsK zs k = TS at *
      obtain ⟨av, cv, rfl⟩ := hown.form
      have hol := hown.lt
      have hsz := hB.size
      go_wp2_with fail
      go_region_law (first
        | (refine step_appT _ (by rfl) (.tmp 12) (.tmp 23) (by rfl) w.heap.size (.slice av TS.length cv) TS (by simp [Act.eval]) (hown.later ((Below.refl _ wr).drew.alloc (Nat.le_refl _) _)) wr.heap.size 1 ⟨x, y⟩ (by simp [Act.eval]) (heap_alloc_new _ _) (by omega) (by simp; omega) ?_; intro g' cap' w2 h1' h2' h3' h4'))
      all_goals
        go_wp2
        go_roundw
        case rel =>
          refine ⟨k + 1, p + 2, by have := Hp.out; omega, by omega, by go_num, by rw [HS.out]; exact h1', ?_⟩
          exact below_grown (hB.drew.alloc hB.size _) (by simp; omega) h2' (fun g e => (hol g e).1)
        case measure => simp [intOf]; omega
    · have d1 : decide ((p : Int) + 1 < (zs.length : Int)) = false := by simp; omega
      have d2 : decide (p + 1 < zs.length) = false := by simpa using hlt
      obtain rfl : k = zs.length / 2 := by have := Hp.out; omega
      rw [← HF.out] at hown
      obtain ⟨av, cv, rfl⟩ := hown.form
      go_wp2
      go_ret
      exact ⟨_, rfl, hown, hB⟩

end Go.Proofs.YthhmedlefahccaaGreatDoor
/-
  Contracts of package frame, seventh part: a frame out of numbers.
-/
namespace Go.Proofs.YthhmedlefahccaaGreatDoor
open Go.RowKit Plait
set_option maxRecDepth 100000
set_option linter.unusedVariables false

/-- What a call answers that makes a frame, of whose items the whole block is known. -/
def FrOwn (f : Fr) (base : Nat) (w : World) (e : Ending) (w' : World) : Prop :=
  ∃ (a : Option Addr) (cap : Nat), e = .returned (.agg #[.int .i64 f.K, .int .i64 f.R, .int .i64 f.S, .int .i64 f.P.K, .int .i64 f.P.V, .slice a f.E.length cap]) ∧ OwnT base w' (.slice a f.E.length cap) f.E ∧ Below w.heap.size w w'

theorem row_drop {w : World} {g off : Nat} {zs : List Int} (h : Row w (some ⟨g, off, none⟩) zs) (k : Nat) : Row w (some ⟨g, off + k, none⟩) (zs.drop k) := by
  obtain ⟨h1, h2, h3⟩ := h
  refine ⟨by rw [List.length_drop]; omega, fun z hz => h2 z (List.mem_of_mem_drop hz), ?_⟩
  rcases h3 with h3 | ⟨b, o, e, hlt, hc⟩
  · left; rw [h3]; simp
  · right
    injection e with e
    injection e with e1 e2
    subst e1 e2
    refine ⟨g, off + k, rfl, hlt, fun i hi => ?_⟩
    rw [List.length_drop] at hi
    have := hc (k + i) (by omega)
    rw [List.getElem_drop]
    rw [show off + k + i = off + (k + i) by omega]
    exact this

/-- The first five numbers, where they lie. -/
def Five (W : World) (g : Nat) (z0 z1 z2 z3 z4 : Int) : Prop :=
  W.cell? ⟨g, 0, none⟩ = some (.int .i64 z0) ∧ W.cell? ⟨g, 1, none⟩ = some (.int .i64 z1) ∧ W.cell? ⟨g, 2, none⟩ = some (.int .i64 z2) ∧ W.cell? ⟨g, 3, none⟩ = some (.int .i64 z3) ∧ W.cell? ⟨g, 4, none⟩ = some (.int .i64 z4)

theorem five_of {w : World} {g : Nat} {zs : List Int} (h : Row w (some ⟨g, 0, none⟩) zs) (h5 : 5 ≤ zs.length) : g < w.heap.size ∧ Five w g (zs.getD 0 0) (zs.getD 1 0) (zs.getD 2 0) (zs.getD 3 0) (zs.getD 4 0) := by
  obtain ⟨_, _, h3⟩ := h
  rcases h3 with h3 | ⟨b, o, e, hlt, hc⟩
  · rw [h3] at h5; simp at h5
  · injection e with e
    injection e with e1 e2
    subst e1 e2
    have k : ∀ i, i < 5 → w.cell? ⟨g, i, none⟩ = some (.int .i64 (zs.getD i 0)) := fun i hi => by
      have := hc i (by omega)
      rw [Nat.zero_add] at this
      rw [this, List.getD_eq_getElem?_getD, List.getElem?_eq_getElem (by omega)]
      rfl
    exact ⟨hlt, k 0 (by omega), k 1 (by omega), k 2 (by omega), k 3 (by omega), k 4 (by omega)⟩

theorem Five.next {w w' : World} {g : Nat} {z0 z1 z2 z3 z4 : Int} (h : Five w g z0 z1 z2 z3 z4) (hg : g < w.heap.size) (hb : Below w.heap.size w w') : Five w' g z0 z1 z2 z3 z4 := by
  obtain ⟨h0, h1, h2, h3, h4⟩ := h
  have n := fun {o : Nat} {v : Value} (e : w.cell? ⟨g, o, none⟩ = some v) => (hb.cell (p := ⟨g, o, none⟩) hg).trans e
  exact ⟨n h0, n h1, n h2, n h3, n h4⟩
theorem Five.set {w : World} {g : Nat} {z0 z1 z2 z3 z4 : Int} (h : Five w g z0 z1 z2 z3 z4) {b : Nat} (hne : g < b) (k : Nat) (u : Value) : Five (w.setCell ⟨b, k, none⟩ u) g z0 z1 z2 z3 z4 := by
  obtain ⟨h0, h1, h2, h3, h4⟩ := h
  have n := fun {o : Nat} {v : Value} (e : w.cell? ⟨g, o, none⟩ = some v) => (World.cell?_setCell_other w ⟨b, k, none⟩ ⟨g, o, none⟩ u (fun e' => by injection e' with e1; omega)).trans e
  exact ⟨n h0, n h1, n h2, n h3, n h4⟩

/-- frameOf's last step. -/
theorem frameOf_end (f : Fr) (w wr : World) (av : Option Addr) (cv : Nat) (hB : Below w.heap.size w wr) (k2 : Blk wr w.heap.size 32 zeroBox)
    (hown : OwnT (w.heap.size + 1) wr (.slice av f.E.length cv) f.E) {f' : Fr} (hp : f' = f) {a : Act}
    (h6 : a.tmps[2]? = some (.pointer (some ⟨w.heap.size, 0, none⟩)) := by rfl) (hd : a.defers = [] := by rfl) :
    bodyPost Tryz.prog Tryz.f143 (FrOwn f' (w.heap.size + 1) w) Exit.ret a
      ((((((wr.setCell ⟨w.heap.size, 0, none⟩ (.int .i64 f.K)).setCell ⟨w.heap.size, 1, none⟩ (.int .i64 f.R)).setCell ⟨w.heap.size, 2, none⟩ (.int .i64 f.S)).setCell
        ⟨w.heap.size, 3, none⟩ (.int .i64 f.P.K)).setCell ⟨w.heap.size, 4, none⟩ (.int .i64 f.P.V)).setCell ⟨w.heap.size, 5, none⟩ (.slice av f.E.length cv)) := by
  subst hp
  unfold zeroBox at k2
  have kk := ((((((k2.set 0 (.int .i64 f'.K)).set 1 (.int .i64 f'.R)).set 2 (.int .i64 f'.S)).set 3 (.int .i64 f'.P.K)).set 4 (.int .i64 f'.P.V)).set 5 (.slice av f'.E.length cv))
  have hb2 := (((((hB.setCell (p := ⟨w.heap.size, 0, none⟩) (by simp) (.int .i64 f'.K)).setCell (p := ⟨w.heap.size, 1, none⟩) (by simp) (.int .i64 f'.R)).setCell (p := ⟨w.heap.size, 2, none⟩) (by simp) (.int .i64 f'.S)).setCell
    (p := ⟨w.heap.size, 3, none⟩) (by simp) (.int .i64 f'.P.K)).setCell (p := ⟨w.heap.size, 4, none⟩) (by simp) (.int .i64 f'.P.V)).setCell (p := ⟨w.heap.size, 5, none⟩) (by simp) (.slice av f'.E.length cv)
  have ho := (((((hown.far ⟨w.heap.size, 0, none⟩ (.int .i64 f'.K) (by simp)).far ⟨w.heap.size, 1, none⟩ (.int .i64 f'.R) (by simp)).far ⟨w.heap.size, 2, none⟩ (.int .i64 f'.S) (by simp)).far
    ⟨w.heap.size, 3, none⟩ (.int .i64 f'.P.K) (by simp)).far ⟨w.heap.size, 4, none⟩ (.int .i64 f'.P.V) (by simp)).far ⟨w.heap.size, 5, none⟩ (.slice av f'.E.length cv) (by simp)
  generalize (((((wr.setCell _ _).setCell _ _).setCell _ _).setCell _ _).setCell _ _).setCell _ _ = W at *
  have q := kk.at
  simp at q
  exact bodyPost_ret (v := .agg #[.int .i64 f'.K, .int .i64 f'.R, .int .i64 f'.S, .int .i64 f'.P.K, .int .i64 f'.P.V, .slice av f'.E.length cv]) (by simp [results, Tryz.results143, go_sem, h6, q]) hd ⟨av, cv, rfl, ho, hb2⟩

theorem size_ad (w : World) (o : Obj) : (w.alloc o).drew.heap.size = w.heap.size + 1 := by show (w.alloc o).heap.size = _; simp

attribute [local irreducible] World.alloc World.drew World.setCell

set_option maxHeartbeats 3200000 in
theorem fframeOf_any (g : Nat) (zs : List Int) (cap : Nat) (w : World) (hrow : Row w (some ⟨g, 0, none⟩) zs) (h5 : 5 ≤ zs.length) (hcap : zs.length ≤ cap) (hl : zs.length ≤ 600000) (hcl : cap ≤ 9223372036854775807) :
    Calls Tryz.prog 143 #[.slice (some ⟨g, 0, none⟩) zs.length cap] w (FrOwn (frN zs) (w.heap.size + 1) w) := by
  have HF := Lib.hid (show frN zs = ⟨zs.getD 0 0, zs.getD 1 0, zs.getD 2 0, ⟨zs.getD 3 0, zs.getD 4 0⟩, itemsN (zs.drop 5)⟩ from rfl)
  obtain ⟨hg, hF⟩ := five_of hrow h5
  have hB0 : Below w.heap.size w (w.alloc (.cells zeroBox 32)) := alloc_below w _
  have hZ0 : Blk (w.alloc (.cells zeroBox 32)) w.heap.size 32 zeroBox := Blk.new w _ _
  have hr0 := ((hrow.later hB0).drew1)
  have hF0 := hF.next hg hB0
  have hgn : g < (w.alloc (.cells zeroBox 32)).heap.size := Nat.lt_of_lt_of_le hg hB0.size
  have hd : Row (w.alloc (.cells zeroBox 32)).drew (if cap = 5 then some ⟨g, 0, none⟩ else some ⟨g, 5, none⟩) (zs.drop 5) := by
    split
    · rw [List.drop_of_length_le (by omega)]
      exact Row.empty _ _
    · simpa using row_drop hr0 5
  by_cases hc5 : cap = 5
  all_goals
    (first | rw [if_pos hc5] at hd | rw [if_neg hc5] at hd)
    have HI := Lib.hid (fun cp => fitemsOf_any _ (zs.drop 5) cp _ hd (by rw [List.length_drop]; omega))
    have hdl : (zs.drop 5).length = zs.length - 5 := List.length_drop
    rw [hdl] at HI
    have i0 : (0 : Int) < (zs.length : Int) := by omega
    have j0 : 0 < zs.length := by omega
    have i1 : (1 : Int) < (zs.length : Int) := by omega
    have j1 : 1 < zs.length := by omega
    have i2 : (2 : Int) < (zs.length : Int) := by omega
    have j2 : 2 < zs.length := by omega
    have i3 : (3 : Int) < (zs.length : Int) := by omega
    have j3 : 3 < zs.length := by omega
    have i4 : (4 : Int) < (zs.length : Int) := by omega
    have j4 : 4 < zs.length := by omega
    have s5 : (5 : Int) ≤ (zs.length : Int) := by omega
    have s6 : (zs.length : Int) ≤ (cap : Int) := by omega
    generalize zs.getD 0 0 = z0 at *
    generalize zs.getD 1 0 = z1 at *
    generalize zs.getD 2 0 = z2 at *
    generalize zs.getD 3 0 = z3 at *
    generalize zs.getD 4 0 = z4 at *
    clear hr0 hd hdl hrow hF
    go_enter Tryz.func143, Tryz.ntmps143
    go_wp2_with fail
    go_region_held3 (fun W => W.cell? ⟨g, 0, none⟩ = some (.int .i64 z0) ∧ W.cell? ⟨g, 1, none⟩ = some (.int .i64 z1) ∧ W.cell? ⟨g, 2, none⟩ = some (.int .i64 z2) ∧ W.cell? ⟨g, 3, none⟩ = some (.int .i64 z3) ∧ W.cell? ⟨g, 4, none⟩ = some (.int .i64 z4))
      (first | exact hF0.next hgn (Below.refl _ _).drew | assumption | exact hFm | exact (((((hFm.set hg 0 _).set hg 1 _).set hg 2 _).set hg 3 _).set hg 4 _).set hg 5 _)
      (first
      | (go_at_call 153; refine (HI.out _).mono ?_; rintro e wm ⟨v, rfl, hown, hbm⟩; rw [size_ad] at hown; replace hbm := from_drew hbm; have hFm := hF0.next hgn hbm; have hxm := hZ0.later hbm; have hxq := hxm.at; have hxf := hxm.frozen; unfold zeroBox at hxq; obtain ⟨av, cv, rfl⟩ := hown.form))
    all_goals go_wp2_with fail
    all_goals exact frameOf_end ⟨z0, z1, z2, ⟨z3, z4⟩, itemsN (zs.drop 5)⟩ w wm av cv (hB0.trans (hbm.mono hB0.size)) hxm hown HF.out

end Go.Proofs.YthhmedlefahccaaGreatDoor
/-
  Contracts of package frame, eighth part: Read.
-/
namespace Go.Proofs.YthhmedlefahccaaGreatDoor
open Go.RowKit Plait
set_option maxRecDepth 100000
set_option linter.unusedVariables false

theorem open_all (l b : List UInt8) (h : openP l = (b, 0)) : allBits b := by
  unfold openP at h
  split at h
  · simp at h
  · rename_i hw
    split at h
    · simp at h
    · split at h
      · have := (Prod.ext_iff.1 h).1
        simp only at this
        rw [← this]
        exact whole_take l _ (by simpa using hw) (by omega)
      · simp at h

/-- Read's last step: the frame is laid into the result's place. -/
theorem fread_end (f : Fr) (er : Int) (w wr : World) (av : Option Addr) (cv : Nat) (hB : Below w.heap.size w wr) (k2 : Blk wr (w.heap.size + 1) 32 zeroBox)
    (hown : OwnT (w.heap.size + 2) wr (.slice av f.E.length cv) f.E) (hl : f.E.length ≤ 1000000) (hz : ∀ t ∈ f.E, inI t.K ∧ inI t.V) {p : Fr × Int} (hp : p = (f, er)) {a : Act}
    (h4 : a.tmps[4]? = some (.pointer (some ⟨w.heap.size + 1, 0, none⟩)) := by rfl) (h5 : a.tmps[5]? = some (.int .i64 er) := by rfl) (hd : a.defers = [] := by rfl) :
    bodyPost Tryz.prog Tryz.f132 (ReadRet p w) Exit.ret a
      ((((((wr.setCell ⟨w.heap.size + 1, 0, none⟩ (.int .i64 f.K)).setCell ⟨w.heap.size + 1, 1, none⟩ (.int .i64 f.R)).setCell ⟨w.heap.size + 1, 2, none⟩ (.int .i64 f.S)).setCell
        ⟨w.heap.size + 1, 3, none⟩ (.int .i64 f.P.K)).setCell ⟨w.heap.size + 1, 4, none⟩ (.int .i64 f.P.V)).setCell ⟨w.heap.size + 1, 5, none⟩ (.slice av f.E.length cv)) := by
  subst hp
  unfold zeroBox at k2
  have kk := ((((((k2.set 0 (.int .i64 f.K)).set 1 (.int .i64 f.R)).set 2 (.int .i64 f.S)).set 3 (.int .i64 f.P.K)).set 4 (.int .i64 f.P.V)).set 5 (.slice av f.E.length cv))
  have hb2 := (((((hB.setCell (p := ⟨w.heap.size + 1, 0, none⟩) (by simp) (.int .i64 f.K)).setCell (p := ⟨w.heap.size + 1, 1, none⟩) (by simp) (.int .i64 f.R)).setCell (p := ⟨w.heap.size + 1, 2, none⟩) (by simp) (.int .i64 f.S)).setCell
    (p := ⟨w.heap.size + 1, 3, none⟩) (by simp) (.int .i64 f.P.K)).setCell (p := ⟨w.heap.size + 1, 4, none⟩) (by simp) (.int .i64 f.P.V)).setCell (p := ⟨w.heap.size + 1, 5, none⟩) (by simp) (.slice av f.E.length cv)
  have ho := (((((hown.far ⟨w.heap.size + 1, 0, none⟩ (.int .i64 f.K) (by simp)).far ⟨w.heap.size + 1, 1, none⟩ (.int .i64 f.R) (by simp)).far ⟨w.heap.size + 1, 2, none⟩ (.int .i64 f.S) (by simp)).far
    ⟨w.heap.size + 1, 3, none⟩ (.int .i64 f.P.K) (by simp)).far ⟨w.heap.size + 1, 4, none⟩ (.int .i64 f.P.V) (by simp)).far ⟨w.heap.size + 1, 5, none⟩ (.slice av f.E.length cv) (by simp)
  generalize (((((wr.setCell _ _).setCell _ _).setCell _ _).setCell _ _).setCell _ _).setCell _ _ = W at *
  have q := kk.at
  simp at q
  refine bodyPost_ret (v := .tuple #[.agg #[.int .i64 f.K, .int .i64 f.R, .int .i64 f.S, .int .i64 f.P.K, .int .i64 f.P.V, .slice av f.E.length cv], .int .i64 er]) (by simp [results, Tryz.results132, go_sem, h4, h5, q]) hd ⟨av, cv, rfl, ho.row (by omega) hz, ?_, hb2⟩
  intro x hx
  have := (ho.lt x.block (by rw [hx]; rfl)).1
  omega

/-- Read's frame, boxed. -/
theorem fr_boxed {wm : World} {F : Fr} {av : Option Addr} {cv : Nat} : Blk (wm.alloc (.cells #[.int .i64 F.K, .int .i64 F.R, .int .i64 F.S, .int .i64 F.P.K, .int .i64 F.P.V, .slice av F.E.length cv] 32)) wm.heap.size 32 (frBox F av cv) := Blk.new wm _ _

set_option maxHeartbeats 6400000 in
theorem fRead_any (c : Cf) (ca : Option Addr) (cc : Nat) (l : List UInt8) (w : World) (hc : c.Ok) (hs : l.length ≤ 1048576) :
    Calls Tryz.prog 132 #[.agg #[.int .i64 c.N, .int .i64 c.Pi, .int .i64 c.E, .int .i64 c.G, .int .i64 c.F, .slice ca c.P.length cc], .string ⟨l.toArray⟩] w (ReadRet (readF c l) w) := by
  obtain ⟨b, er, hbe⟩ : ∃ b e, openP l = (b, e) := ⟨_, _, rfl⟩
  have hbl := open_len l
  rw [hbe] at hbl
  simp only at hbl
  have HO := Lib.hid (fun W => copen_any l W hs)
  have HQ := Lib.hid (show openR l = .tuple #[.string ⟨b.toArray⟩, .int .i64 er] by unfold openR; rw [hbe])
  rw [HQ.out] at HO
  have hB0 : Below w.heap.size w ((w.alloc (.cells #[.int .i64 c.N, .int .i64 c.Pi, .int .i64 c.E, .int .i64 c.G, .int .i64 c.F, .slice ca c.P.length cc] 24)).alloc (.cells zeroBox 32)) := (alloc_below w _).alloc (by simp) _
  have hC0 : Blk ((w.alloc (.cells #[.int .i64 c.N, .int .i64 c.Pi, .int .i64 c.E, .int .i64 c.G, .int .i64 c.F, .slice ca c.P.length cc] 24)).alloc (.cells zeroBox 32)) w.heap.size 24 (confBox c ca cc) := (Blk.new w _ _).alloc _
  have hZ0 : Blk ((w.alloc (.cells #[.int .i64 c.N, .int .i64 c.Pi, .int .i64 c.E, .int .i64 c.G, .int .i64 c.F, .slice ca c.P.length cc] 24)).alloc (.cells zeroBox 32)) (w.heap.size + 1) 32 zeroBox := Blk.newAt _ _ (by simp)
  by_cases he : er = 0
  · subst he
    have HR := Lib.hid (readF_ok c l b hbe)
    have HA := Lib.hid (open_all l b hbe)
    clear hbe HQ
    by_cases h34 : b.length < 34
    · have HF := Lib.hid (show readF c l = (zeroF, 3) by rw [HR.out, readB_cut c b h34])
      have d1 : decide ((b.length : Int) < 34) = true := by simp; omega
      go_enter Tryz.func132, Tryz.ntmps132
      go_wp2_with fail
      refine (HO.out _).mono ?_
      rintro e wn ⟨rfl, hb⟩
      have hB := hB0.trans (hb.mono hB0.size)
      have hZ := hZ0.later hb
      have hQ := hZ.at
      have hF := hZ.frozen
      unfold zeroBox at hQ
      go_wp2
      exact fread_end zeroF 3 w wn none 0 hB hZ (OwnT.nil _ _) (by decide) (fun t ht => by simp [zeroF] at ht) HF.out
    · have h34' : (34 : Int) ≤ (b.length : Int) := by omega
      have d1 : decide ((b.length : Int) < 34) = false := by simp; omega
      go_enter Tryz.func132, Tryz.ntmps132
      go_wp2_with fail
      refine (HO.out _).mono ?_
      rintro e wn ⟨rfl, hb⟩
      have hH : HeldR c ca cc w wn := HeldR.next ⟨hB0, hC0, hZ0⟩ hb
      clear hb hB0 hC0 hZ0 HO
      go_wp2_with fail
      refine (freadNumbers_any b _ HA.out (by omega)).mono ?_
      rintro e wm ⟨m, hm1, hm2, v, rfl, hown, hb⟩
      replace hH := hH.next hb
      clear hb
      have hm5 := (cnt_of b.length m (by omega) hm1 hm2).1
      have hmg := off_ge m
      have HN := Lib.hid (frN_nums b HA.out m (by omega) hm1 hm2)
      have hin := numsOf_in b m
      have hll : (numsOf b m).length = m := numsOf_len b m
      obtain ⟨g, cv, cur, rfl, hg, hgb, hcap, hmax, _⟩ : ∃ g cap cur, v = .slice (some ⟨g, 0, none⟩) (numsOf b m).length cap ∧ wn.heap.size ≤ g ∧ wm.heap[g]? = some (.cells cur 3 (0, 0)) ∧ (numsOf b m).length ≤ cap ∧ cap ≤ maxLen ∧ True := by
        rcases hown.2 with ⟨_, h0⟩ | ⟨g, cap, cur, h1, h2, h3, h4, h5, _⟩
        · omega
        · exact ⟨g, cap, cur, h1, h2, h3, h4, h5, trivial⟩
      have hrow := hown.row (by omega) hin
      have h5 : 5 ≤ (numsOf b m).length := by omega
      have h6 : (numsOf b m).length ≤ 600000 := by omega
      have HFo := Lib.hid (fframeOf_any g (numsOf b m) cv wm hrow h5 hcap h6 hmax)
      rw [HN.out] at HFo
      have hsz2 : w.heap.size + 2 ≤ wm.heap.size := hH.2.2.lt
      clear hll hcap hmax hgb hg hown hrow hin h5 h6 hmg hm5 hm1 hm2 HN
      generalize (numsOf b m).length = nl at *
      obtain ⟨q, hq⟩ : ∃ q, (b.length - 34) / 10 = q := ⟨_, rfl⟩
      have hqb : q ≤ 110000 := by omega
      have HRl := Lib.hid (fun h2 => readB_long c b h34 h2)
      have HRc := Lib.hid (fun h2 e he h3 => readB_check c b h34 h2 e he h3)
      have HRo := Lib.hid (fun h2 he => readB_ok c b h34 h2 he)
      rw [hq] at HFo HRc HRo
      obtain ⟨F, hF⟩ : ∃ F, (frOf b).with (itsOf (b.drop 34) q) = F := ⟨_, rfl⟩
      have hFK : (frOf b).K = F.K := by rw [← hF]; rfl
      have hFS : (frOf b).S = F.S := by rw [← hF]; rfl
      have hFE : F.E = itsOf (b.drop 34) q := by rw [← hF]; rfl
      have hEl : F.E.length ≤ 110000 := by rw [hFE, itsOf_len]; omega
      have hEin : ∀ t ∈ F.E, inI t.K ∧ inI t.V := by rw [hFE]; exact itsOf_in _ _
      rw [hF] at HFo HRc HRo
      rw [hFK, hFS] at HRl HRc HRo
      clear hF hFK hFS hFE hq
      have he : 0 ≤ echoI c F.K F.S ∧ echoI c F.K F.S ≤ 15 := by
        have := hc.n6; have := hc.n12; have := hc.len
        unfold echoI slotsI
        split <;> omega
      obtain ⟨he0, he1⟩ := he
      go_wp2_with fail
      refine HFo.out.mono ?_
      rintro e wo ⟨av, cv2, rfl, hown, hb⟩
      replace hH := hH.next hb
      replace hown := hown.weak (show w.heap.size + 2 ≤ wm.heap.size + 1 by omega)
      clear hb HFo
      have hK : Blk (wo.alloc (.cells #[.int .i64 F.K, .int .i64 F.R, .int .i64 F.S, .int .i64 F.P.K, .int .i64 F.P.V, .slice av F.E.length cv2] 32)) wo.heap.size 32 (frBox F av cv2) := Blk.new wo _ _
      replace hH := hH.next (alloc_below wo (.cells #[.int .i64 F.K, .int .i64 F.R, .int .i64 F.S, .int .i64 F.P.K, .int .i64 F.P.V, .slice av F.E.length cv2] 32))
      replace hown := hown.later (alloc_below wo (.cells #[.int .i64 F.K, .int .i64 F.R, .int .i64 F.S, .int .i64 F.P.K, .int .i64 F.P.V, .slice av F.E.length cv2] 32))
      go_upto_region 7 with fail
      generalize wo.alloc (.cells #[.int .i64 F.K, .int .i64 F.R, .int .i64 F.S, .int .i64 F.P.K, .int .i64 F.P.V, .slice av F.E.length cv2] 32) = wp at *
      generalize wo.heap.size = G at *
      have q1 := hH.2.1.at
      unfold confBox at q1
      have q3 := hK.at
      unfold frBox at q3
      go_wp2_with fail
      refine (fechoes_any c ca cc F av cv2 _ hc).mono ?_
      rintro e wq ⟨rfl, hb⟩
      replace hH := hH.next hb
      replace hK := hK.later hb
      replace hown := hown.later hb
      clear hb q1 q3
      generalize echoI c F.K F.S = en at *
      by_cases hL : (b.length : Int) - 34 = 10 * en
      · have d2 : ((b.length : Int) != 34 + 10 * en) = false := by simp; omega
        replace HRc := Lib.hid (HRc.out hL)
        replace HRo := Lib.hid (HRo.out hL)
        clear hL HRl
        have q1 := hH.2.1.at
        unfold confBox at q1
        have q3 := hK.at
        unfold frBox at q3
        have hrT := hown.row (by omega) hEin
        have HCk := Lib.hid (fCheck_any c ca cc F av cv2 wq hc hrT)
        cases hce : (checkF c F == 0)
        · have hce' : checkF c F ≠ 0 := by simpa using hce
          have HF := Lib.hid (HR.out.trans (HRc.out _ rfl hce'))
          have d3 : (checkF c F != 0) = true := by rw [bne, hce]; rfl
          clear hce hce' HRc HRo HR
          generalize checkF c F = er at *
          go_wp2_with fail
          refine HCk.out.mono ?_
          rintro e wr ⟨rfl, hb⟩
          replace hH := hH.next hb
          have hQ := hH.2.2.at
          have hfz := hH.2.2.frozen
          unfold zeroBox at hQ
          clear q1 q3
          go_wp2
          exact fread_end zeroF er w wr none 0 hH.1 hH.2.2 (OwnT.nil _ _) (by decide) (fun t ht => by simp [zeroF] at ht) HF.out
        · have hce' : checkF c F = 0 := by simpa using hce
          have HF := Lib.hid (HR.out.trans (HRo.out hce'))
          rw [hce'] at HCk
          clear hce hce' HRc HRo HR
          go_wp2_with fail
          refine HCk.out.mono ?_
          rintro e wr ⟨rfl, hb⟩
          replace hH := hH.next hb
          replace hK := hK.later hb
          replace hown := hown.later hb
          have hQ := hH.2.2.at
          have hfz := hH.2.2.frozen
          unfold zeroBox at hQ
          clear q1 q3
          have q3 := hK.at
          unfold frBox at q3
          go_wp2
          exact fread_end F 0 w wr av cv2 hH.1 hH.2.2 hown (by omega) hEin HF.out
      · have d2 : ((b.length : Int) != 34 + 10 * en) = true := by simp; omega
        have HF := Lib.hid (HR.out.trans (HRl.out hL))
        have hQ := hH.2.2.at
        have hfz := hH.2.2.frozen
        unfold zeroBox at hQ
        go_wp2
        exact fread_end zeroF 2 w wq none 0 hH.1 hH.2.2 (OwnT.nil _ _) (by decide) (fun t ht => by simp [zeroF] at ht) HF.out
  · have HF := Lib.hid (readF_err c l b er hbe he)
    have d1 : (er != 0) = true := by simpa using he
    clear he hbe HQ
    go_enter Tryz.func132, Tryz.ntmps132
    go_wp2_with fail
    refine (HO.out _).mono ?_
    rintro e wn ⟨rfl, hb⟩
    have hB := hB0.trans (hb.mono hB0.size)
    have hZ := hZ0.later hb
    have hQ := hZ.at
    have hF := hZ.frozen
    unfold zeroBox at hQ
    go_wp2
    exact fread_end zeroF er w wn none 0 hB hZ (OwnT.nil _ _) (by decide) (fun t ht => by simp [zeroF] at ht) HF.out

end Go.Proofs.YthhmedlefahccaaGreatDoor
/-
  Contracts of package frame, ninth part: Same.
-/
namespace Go.Proofs.YthhmedlefahccaaGreatDoor
open Go.RowKit Plait
set_option maxRecDepth 100000
set_option linter.unusedVariables false

end Go.Proofs.YthhmedlefahccaaGreatDoor
/-
  Contracts of the third laws' own helpers: within, Make.
-/
namespace Go.Proofs.YthhmedlefahccaaGreatDoor
open Go.RowKit Plait
set_option maxRecDepth 100000
set_option linter.unusedVariables false

theorem within3_any (a n : Int) (w : World) (hn : 0 < n) (hn2 : n ≤ 1099511627776) :
    Calls Tryz.prog 62 #[.int .i64 a, .int .i64 n] w fun e w' => e = .returned (.int .i64 (a % n)) ∧ w = w' := by
  have b1 : 0 ≤ a % n := Int.emod_nonneg _ (by omega)
  have b2 : a % n < n := Int.emod_lt_of_pos _ hn
  by_cases h0 : 0 ≤ a
  · go_enter Tryz.func62, Tryz.ntmps62
    go_wp2
    go_ret
    exact ⟨rfl, rfl⟩
  · have h1 : a.tmod n = -((-a) % n) := by
      rw [show a = -(-a) by omega, Int.neg_tmod, Int.tmod_eq_emod_of_nonneg (by omega)]; simp
    have c1 : 0 ≤ (-a) % n := Int.emod_nonneg _ (by omega)
    have c2 : (-a) % n < n := Int.emod_lt_of_pos _ hn
    by_cases hz : (-a) % n = 0
    · have h2 : a.tmod n = 0 := by rw [h1, hz]; rfl
      have HF := Lib.hid (show (0 : Int) = a % n by
        have : n ∣ -a := Int.dvd_of_emod_eq_zero hz
        exact (Int.emod_eq_zero_of_dvd (Int.dvd_neg.1 this)).symm)
      clear h1 hz c1 c2 b1 b2
      go_enter Tryz.func62, Tryz.ntmps62
      go_wp2
      go_ret
      exact ⟨ret_int HF.out, rfl⟩
    · obtain ⟨r, hr⟩ : ∃ r, r = (-a) % n := ⟨_, rfl⟩
      rw [← hr] at h1 c1 c2 hz
      have HF := Lib.hid (show -r + n = a % n by
        have e := Int.emod_add_mul_ediv (-a) n
        rw [← hr] at e
        have e2 : a = (-r + n) + n * (-((-a) / n) - 1) := by rw [Int.mul_sub, Int.mul_neg]; omega
        rw [e2, Int.add_mul_emod_self_left]
        exact (Int.emod_eq_of_lt (by omega) (by omega)).symm)
      clear hr b1 b2
      go_enter Tryz.func62, Tryz.ntmps62
      go_wp2
      go_ret
      exact ⟨ret_int HF.out, rfl⟩

/-- What a call answers that makes a network. -/
def ConfRet (c : Cf) (w : World) (e : Ending) (w' : World) : Prop :=
  ∃ (a : Option Addr) (cap : Nat), e = .returned (.agg #[.int .i64 c.N, .int .i64 c.Pi, .int .i64 c.E, .int .i64 c.G, .int .i64 c.F, .slice a c.P.length cap]) ∧ Row w' a c.P ∧ (∀ x, a = some x → w.heap.size ≤ x.block) ∧ Below w.heap.size w w'

/-- The same, and that what it holds has room. -/
def ConfRet2 (c : Cf) (w : World) (e : Ending) (w' : World) : Prop :=
  ∃ (a : Option Addr) (cap : Nat), e = .returned (.agg #[.int .i64 c.N, .int .i64 c.Pi, .int .i64 c.E, .int .i64 c.G, .int .i64 c.F, .slice a c.P.length cap]) ∧ Row w' a c.P ∧ (∀ x, a = some x → w.heap.size ≤ x.block) ∧ c.P.length ≤ cap ∧ Below w.heap.size w w'
theorem OwnI.room {base : Nat} {w : World} {a : Option Addr} {n cap : Nat} {zs : List Int} (h : OwnI base w (.slice a n cap) zs) : zs.length ≤ cap := by
  rcases h.2 with ⟨hv, h0⟩ | ⟨g, cap', cur, hv, _, _, hcap, _⟩
  · omega
  · injection hv with _ _ e
    rw [e]
    exact hcap

/-- Where Make's variable g stands: h is the heap's size at the start. -/
def MakeG (c : Cf) (a : Option Addr) (cap : Nat) (w : World) (pi f : Int) (wx : World) : Prop :=
  Below w.heap.size w wx ∧ Blk wx w.heap.size 24 (confBox c a cap) ∧ Blk wx (w.heap.size + 1) 24 #[.int .i64 0, .int .i64 0, .int .i64 0, .int .i64 0, .int .i64 0, .slice none 0 0] ∧
    Blk wx (w.heap.size + 2) 24 #[.int .i64 (6 + c.N % 7), .int .i64 pi, .int .i64 (c.E % 21), .int .i64 (c.G % 21), .int .i64 f, .slice none 0 0]

/-- The loop over the pairs. -/
def MakeL (c : Cf) (a : Option Addr) (cap : Nat) (w : World) (i : Value) (wx : World) : Prop :=
  ∃ (k : Nat) (v : Value), k ≤ c.P.length ∧ k ≤ 3 ∧ i = .int .i64 k ∧ Below w.heap.size w wx ∧ Blk wx w.heap.size 24 (confBox c a cap) ∧ Blk wx (w.heap.size + 1) 24 #[.int .i64 0, .int .i64 0, .int .i64 0, .int .i64 0, .int .i64 0, .slice none 0 0] ∧
    Blk wx (w.heap.size + 2) 24 #[.int .i64 (6 + c.N % 7), .int .i64 (makeC c).Pi, .int .i64 (c.E % 21), .int .i64 (c.G % 21), .int .i64 (makeC c).F, v] ∧ OwnI (w.heap.size + 3) wx v ((makeC c).P.take k)

theorem makeP_get (c : Cf) (k : Nat) (h : k < c.P.length) (h3 : k < 3) : ∃ hk : k < (makeC c).P.length, (makeC c).P[k] = c.P[k] % (6 + c.N % 7 + 1) - 1 := by
  have hk : k < (makeC c).P.length := by simp [makeC]; omega
  exact ⟨hk, by simp [makeC]⟩

theorem makeP_len (c : Cf) : (makeC c).P.length = min 3 c.P.length := by simp [makeC]

/-- Make's last step: g is laid into the result's place. -/
theorem make_end (c : Cf) (w wr : World) (av : Option Addr) (cv : Nat) (hB : Below w.heap.size w wr)
    (k2 : Blk wr (w.heap.size + 1) 24 #[.int .i64 0, .int .i64 0, .int .i64 0, .int .i64 0, .int .i64 0, .slice none 0 0]) (hown : OwnI (w.heap.size + 3) wr (.slice av (makeC c).P.length cv) (makeC c).P) {a : Act}
    (h2 : a.tmps[2]? = some (.pointer (some ⟨w.heap.size + 1, 0, none⟩)) := by rfl) (hd : a.defers = [] := by rfl) :
    bodyPost Tryz.prog Tryz.f40 (ConfRet2 (makeC c) w) Exit.ret a
      ((((((wr.setCell ⟨w.heap.size + 1, 0, none⟩ (.int .i64 (6 + c.N % 7))).setCell ⟨w.heap.size + 1, 1, none⟩ (.int .i64 (makeC c).Pi)).setCell ⟨w.heap.size + 1, 2, none⟩ (.int .i64 (c.E % 21))).setCell
        ⟨w.heap.size + 1, 3, none⟩ (.int .i64 (c.G % 21))).setCell ⟨w.heap.size + 1, 4, none⟩ (.int .i64 (makeC c).F)).setCell ⟨w.heap.size + 1, 5, none⟩ (.slice av (makeC c).P.length cv)) := by
  have kk := ((((((k2.set 0 (.int .i64 (6 + c.N % 7))).set 1 (.int .i64 (makeC c).Pi)).set 2 (.int .i64 (c.E % 21))).set 3 (.int .i64 (c.G % 21))).set 4 (.int .i64 (makeC c).F)).set 5 (.slice av (makeC c).P.length cv))
  have hb2 := (((((hB.setCell (p := ⟨w.heap.size + 1, 0, none⟩) (by simp) (.int .i64 (6 + c.N % 7))).setCell (p := ⟨w.heap.size + 1, 1, none⟩) (by simp) (.int .i64 (makeC c).Pi)).setCell (p := ⟨w.heap.size + 1, 2, none⟩) (by simp) (.int .i64 (c.E % 21))).setCell
    (p := ⟨w.heap.size + 1, 3, none⟩) (by simp) (.int .i64 (c.G % 21))).setCell (p := ⟨w.heap.size + 1, 4, none⟩) (by simp) (.int .i64 (makeC c).F)).setCell (p := ⟨w.heap.size + 1, 5, none⟩) (by simp) (.slice av (makeC c).P.length cv)
  have ho := (((((hown.far ⟨w.heap.size + 1, 0, none⟩ (.int .i64 (6 + c.N % 7)) (by simp)).far ⟨w.heap.size + 1, 1, none⟩ (.int .i64 (makeC c).Pi) (by simp)).far ⟨w.heap.size + 1, 2, none⟩ (.int .i64 (c.E % 21)) (by simp)).far
    ⟨w.heap.size + 1, 3, none⟩ (.int .i64 (c.G % 21)) (by simp)).far ⟨w.heap.size + 1, 4, none⟩ (.int .i64 (makeC c).F) (by simp)).far ⟨w.heap.size + 1, 5, none⟩ (.slice av (makeC c).P.length cv) (by simp)
  generalize (((((wr.setCell _ _).setCell _ _).setCell _ _).setCell _ _).setCell _ _).setCell _ _ = W at *
  have q := kk.at
  simp at q
  refine bodyPost_ret (v := .agg #[.int .i64 (makeC c).N, .int .i64 (makeC c).Pi, .int .i64 (makeC c).E, .int .i64 (makeC c).G, .int .i64 (makeC c).F, .slice av (makeC c).P.length cv]) (by simp [results, Tryz.results40, go_sem, h2, q, makeC]) hd ⟨av, cv, rfl, ho.row ?_ ?_, ?_, ho.room, hb2⟩
  · have := (makeC_ok c).len
    omega
  · intro z hz
    have := (makeC_ok c).all z hz
    have := (makeC_ok c).n12
    omega
  · intro x hx
    have := (ho.lt x.block (by rw [hx]; rfl)).1
    omega

set_option maxHeartbeats 1600000 in
theorem make_any2 (c : Cf) (a : Option Addr) (cap : Nat) (w : World) (hrow : Row w a c.P) :
    Calls Tryz.prog 40 #[.agg #[.int .i64 c.N, .int .i64 c.Pi, .int .i64 c.E, .int .i64 c.G, .int .i64 c.F, .slice a c.P.length cap]] w (ConfRet2 (makeC c) w) := by
  have HF := Lib.hid (show (makeC c).F = if c.F % 3 = 0 then 65535 - c.F % 40 else c.F % 65536 from rfl)
  have b3 : 0 ≤ c.F % 3 := by omega
  have b40 : 0 ≤ c.F % 40 := by omega
  have b40' : c.F % 40 < 40 := by omega
  go_enter Tryz.func40, Tryz.ntmps40
  go_upto_region 1 with fail
  go_cut [3] (fun s3 wx => s3 = .pointer (some ⟨w.heap.size + 2, 0, none⟩) ∧ MakeG c a cap w 0 (c.F % 65536) wx)
  case first =>
    have w6 : IntKind.i64.wrap (6 + c.N % 7) = 6 + c.N % 7 := wrap_in _ (by omega) (by omega)
    go_region_held3 (fun W => W.cell? ⟨w.heap.size, 0, none⟩ = some (.int .i64 c.N) ∧ W.cell? ⟨w.heap.size, 2, none⟩ = some (.int .i64 c.E) ∧ W.cell? ⟨w.heap.size, 3, none⟩ = some (.int .i64 c.G) ∧ W.cell? ⟨w.heap.size, 4, none⟩ = some (.int .i64 c.F)) (go_keep)
      (first | (go_at_call 62; refine (within3_any _ _ _ ?_ ?_).mono ?_; omega; omega; rintro e wl ⟨rfl, rfl⟩))
    all_goals go_wp2_with fail
    all_goals go_meet
    all_goals
      refine ⟨rfl, ?_⟩
      exact ⟨(((alloc_below w _).alloc (by simp) _).alloc (by simp; omega) _).drew, ((Blk.new w _ _).alloc _).alloc _, (Blk.newAt _ _ (by simp)).alloc _, Blk.newAt _ _ (by simp)⟩
  case rest =>
    obtain ⟨rfl, hB, k1, k2, k3⟩ := hcut
    have q1 := k1.at
    unfold confBox at q1
    have q3 := k3.at
    have f3 := k3.frozen
    go_upto_if 22 with (go_at_call 62; refine (within3_any c.F 3 _ (by omega) (by omega)).mono ?_; rintro e wl ⟨rfl, rfl⟩)
    go_cut [] (fun wx => MakeG c a cap w 0 (makeC c).F wx)
    case first =>
      by_cases h3 : c.F % 3 = 0
      · have d3 : (c.F % 3 == 0) = true := by simpa using h3
        rw [if_pos h3] at HF
        clear h3
        go_wp2_with (go_at_call 62; refine (within3_any c.F 40 _ (by omega) (by omega)).mono ?_; rintro e wl ⟨rfl, rfl⟩)
        go_meet
        have k3' := k3.set 4 (.int .i64 (65535 - c.F % 40))
        exact ⟨hB.setCell (by simp) _, k1.far (by simp) _, k2.far (by simp) _, by rw [HF.out]; exact k3'⟩
      · have d3 : (c.F % 3 == 0) = false := by simpa using h3
        rw [if_neg h3] at HF
        clear h3
        go_wp2_with fail
        go_meet
        exact ⟨hB, k1, k2, by rw [HF.out]; exact k3⟩
    case rest =>
      clear hB k1 k2 k3 q1 q3 f3
      obtain ⟨hB, k1, k2, k3⟩ := hcut
      have q1 := k1.at
      unfold confBox at q1
      have q3 := k3.at
      have f3 := k3.frozen
      go_upto_region 4 with fail
      go_cut [] (fun wx => MakeG c a cap w (makeC c).Pi (makeC c).F wx)
      case first =>
        have z1 : IntKind.i64.wrap (c.E % 21 + c.G % 21) = c.E % 21 + c.G % 21 := wrap_in _ (by omega) (by omega)
        have z2 : IntKind.i64.wrap (c.E % 21 + c.G % 21 + 1) = c.E % 21 + c.G % 21 + 1 := wrap_in _ (by omega) (by omega)
        have z3 : IntKind.i64.wrap (4 * (c.E % 21 + c.G % 21 + 1)) = 4 * (c.E % 21 + c.G % 21 + 1) := wrap_in _ (by omega) (by omega)
        have z4 : IntKind.i64.wrap (4 * (c.E % 21 + c.G % 21 + 1) + c.Pi % 100) = 4 * (c.E % 21 + c.G % 21 + 1) + c.Pi % 100 := wrap_in _ (by omega) (by omega)
        have HP := Lib.hid (show (makeC c).Pi = 4 * (c.E % 21 + c.G % 21 + 1) + c.Pi % 100 from rfl)
        have t1 := q1 1
        have t2 := q3 2
        have t3 := q3 3
        simp at t1 t2 t3
        go_region_held3 (fun W => W.cell? ⟨w.heap.size, 1, none⟩ = some (.int .i64 c.Pi) ∧ W.cell? ⟨w.heap.size + 2, 2, none⟩ = some (.int .i64 (c.E % 21)) ∧ W.cell? ⟨w.heap.size + 2, 3, none⟩ = some (.int .i64 (c.G % 21))) (first | (go_keep; done) | exact ⟨keep_set t1 (by simp), keep_set t2 (by simp), keep_set t3 (by simp)⟩)
          (first | (go_at_call 62; refine (within3_any _ _ _ ?_ ?_).mono ?_; omega; omega; rintro e wl ⟨rfl, rfl⟩))
        all_goals go_wp2_with fail
        all_goals go_meet
        all_goals
          have k3' := k3.set 1 (.int .i64 (4 * (c.E % 21 + c.G % 21 + 1) + c.Pi % 100))
          exact ⟨(hB.setCell (by simp) _).drew, k1.far (by simp) _, k2.far (by simp) _, by rw [HP.out]; exact k3'⟩
      case rest =>
        clear hB k1 k2 k3 q1 q3 f3
        obtain ⟨hB, k1, k2, k3⟩ := hcut
        go_wp2
        go_loopw [4] (fun i w' => MakeL c a cap w i w') (fun i _ => 3 - (intOf i).toNat)
        case atStart => exact ⟨0, _, Nat.zero_le _, by omega, rfl, hB, k1, k2, k3, OwnI.nil _ _⟩
        case round =>
          clear hB k1 k2 k3
          obtain ⟨k, v, hk, hk3, rfl, hB, k1, k2, k3, hown⟩ := hrel
          have q1 := k1.at
          unfold confBox at q1
          have q3 := k3.at
          have f3 := k3.frozen
          by_cases hlt : k < c.P.length
          · have d1 : decide (k < c.P.length) = true := by simpa using hlt
            by_cases h3 : k < 3
            · have d2 : decide ((k : Int) < 3) = true := by simp; omega
              obtain ⟨b, off, rfl, hbl, hcell, hz1, hz2⟩ := (hrow.later hB).get k hlt
              have hbw : b < w.heap.size := by
                obtain ⟨b', off', e, hlt', _⟩ := hrow.get k hlt
                simp at e
                omega
              obtain ⟨hkl, hkg⟩ := makeP_get c k hlt h3
              have HT := Lib.hid (show (makeC c).P.take (k + 1) = (makeC c).P.take k ++ [c.P[k] % (6 + c.N % 7 + 1) - 1] by rw [List.take_succ_eq_append_getElem hkl, hkg])
              clear hkg
              have hL : ((makeC c).P.take k).length ≤ 3 := by rw [List.length_take]; omega
              generalize c.P[k] = z at *
              generalize (makeC c).P.take k = PL at *
              obtain ⟨av, cv, rfl⟩ := hown.form
              have g0 : (0 : Int) ≤ (k : Int) := by omega
              have g1 : (k : Int) < (c.P.length : Int) := by omega
              have hol := hown.lt
              have hz := k3.lt
              have m0 : 0 ≤ z % (6 + c.N % 7 + 1) := Int.emod_nonneg _ (by omega)
              have m1 : z % (6 + c.N % 7 + 1) < 6 + c.N % 7 + 1 := Int.emod_lt_of_pos _ (by omega)
              have z1 : IntKind.i64.wrap (6 + c.N % 7 + 1) = 6 + c.N % 7 + 1 := wrap_in _ (by omega) (by omega)
              have z2 : IntKind.i64.wrap (z % (6 + c.N % 7 + 1) - 1) = z % (6 + c.N % 7 + 1) - 1 := wrap_in _ (by omega) (by omega)
              have t1 := q1 5
              have t2 := q3 0
              simp at t1 t2
              go_wp2
              go_region_law (first
                | (refine step_app1 _ (by rfl) (.tmp 52) (.tmp 63) (by rfl) (w.heap.size + 3) (.slice av PL.length cv) PL (by simp [Act.eval]) (hown.later ((Below.refl _ _).drew.alloc (by simp) _)) wr.heap.size 1 (z % (6 + c.N % 7 + 1) - 1) (by simp [Act.eval]) (heap_alloc_new _ _) (by omega) (by simp; omega) ?_; intro g cap' w2 h1' h2' h3' h4'; have k3w := (Blk.alloc (w := wr.drew) k3 _).grown h2' (fun e => by have := (hol _ e.symm).1; omega); have q3w := k3w.at 5; have f3w := k3w.frozen 5)
                | (go_simp; go_at_call 62; refine (within3_any _ _ _ ?_ ?_).mono ?_; omega; omega; rintro e wl ⟨rfl, rfl⟩))
              all_goals
                go_wp2
                go_roundw
                case rel =>
                  refine ⟨k + 1, _, by omega, by omega, by go_num, ?_, ?_, ?_, k3w.set 5 _, ?_⟩
                  · exact (below_grown (hB.drew.alloc hB.drew.size _) (hB.drew.alloc hB.drew.size _).size h2' (fun g hg => by have := (hol g hg).1; omega)).setCell (by simp) _
                  · exact ((Blk.alloc (w := wr.drew) k1 _).grown h2' (fun e => by have := (hol _ e.symm).1; omega)).far (by simp) _
                  · exact ((Blk.alloc (w := wr.drew) k2 _).grown h2' (fun e => by have := (hol _ e.symm).1; omega)).far (by simp) _
                  · rw [HT.out]
                    exact h1'.far ⟨w.heap.size + 2, 5, none⟩ _ (by simp)
                case measure => simp [intOf]; omega
            · have d2 : decide ((k : Int) < 3) = false := by simp; omega
              have HL := Lib.hid (show (makeC c).P.take k = (makeC c).P from List.take_of_length_le (by rw [makeP_len]; omega))
              rw [HL.out] at hown
              obtain ⟨av, cv, rfl⟩ := hown.form
              have q2 := k2.at
              have f2 := k2.frozen
              go_wp2
              exact make_end c w wr av cv hB k2 hown
          · have d1 : decide (k < c.P.length) = false := by simpa using hlt
            have HL := Lib.hid (show (makeC c).P.take k = (makeC c).P from List.take_of_length_le (by rw [makeP_len]; omega))
            rw [HL.out] at hown
            obtain ⟨av, cv, rfl⟩ := hown.form
            have q2 := k2.at
            have f2 := k2.frozen
            go_wp2
            exact make_end c w wr av cv hB k2 hown

theorem make_any (c : Cf) (a : Option Addr) (cap : Nat) (w : World) (hrow : Row w a c.P) :
    Calls Tryz.prog 40 #[.agg #[.int .i64 c.N, .int .i64 c.Pi, .int .i64 c.E, .int .i64 c.G, .int .i64 c.F, .slice a c.P.length cap]] w (ConfRet (makeC c) w) := (make_any2 c a cap w hrow).mono fun e w' ⟨da, dc, h1, h2, h3, _, h4⟩ => ⟨da, dc, h1, h2, h3, h4⟩

end Go.Proofs.YthhmedlefahccaaGreatDoor
/-
  plaitinglaw5's known; what all laws of frames use.
-/
namespace Go.Proofs.YthhmedlefahccaaGreatDoor
open Go.RowKit Plait
set_option maxRecDepth 100000
set_option linter.unusedVariables false

theorem itemB_in {i : It} {b : Bool} (h : itemB i b = true) : (0 ≤ i.K ∧ i.K ≤ 2) ∧ 0 ≤ i.V ∧ i.V ≤ 255 := by
  unfold itemB at h
  split at h
  · simp at h; omega
  · split at h
    · simp at h; omega
    · split at h
      · simp at h; omega
      · simp at h

theorem ok_small {c : Cf} {f : Fr} (hc : c.Ok) (h : f.Ok c) : inI f.K ∧ inI f.R ∧ inI f.S ∧ inI f.P.K ∧ inI f.P.V ∧ f.E.length ≤ 15 := by
  obtain ⟨s0, s1, r0, r1, k1, k3, kp, p, pz, len, all⟩ := h
  have hs : slotsI c ≤ 15 := by have := hc.n12; have := hc.len; unfold slotsI; omega
  have hp := itemB_in p
  have he : echoI c f.K f.S ≤ 15 := by unfold echoI; split <;> omega
  unfold inI
  omega

/-- Text of a frame that may be. -/
theorem fText_ok (d : Cf) (da : Option Addr) (dc : Nat) (g : Fr) (ga : Option Addr) (gc : Nat) (w : World) (hok : d.Ok) (hokg : g.Ok d) (hE : RowT w ga g.E) :
    Calls Tryz.prog 125 #[.agg #[.int .i64 d.N, .int .i64 d.Pi, .int .i64 d.E, .int .i64 d.G, .int .i64 d.F, .slice da d.P.length dc], .agg #[.int .i64 g.K, .int .i64 g.R, .int .i64 g.S, .int .i64 g.P.K, .int .i64 g.P.V, .slice ga g.E.length gc]] w fun e w' => e = .returned (.string ⟨(textF g).toArray⟩) ∧ Below w.heap.size w w' := by
  obtain ⟨h1, h2, h3, h4, h5, h6⟩ := ok_small hok hokg
  exact fText_any d da dc g ga gc w hE (by omega) h1 h2 h3 h4 h5

theorem rText_ok (d : Cf) (da : Option Addr) (dc : Nat) (g : Fr) (ga : Option Addr) (gc : Nat) (w : World) (hok : d.Ok) (hokg : g.Ok d) (hE : RowT w ga g.E) :
    Calls Tryz.prog 22 #[.agg #[.int .i64 d.N, .int .i64 d.Pi, .int .i64 d.E, .int .i64 d.G, .int .i64 d.F, .slice da d.P.length dc], .agg #[.int .i64 g.K, .int .i64 g.R, .int .i64 g.S, .int .i64 g.P.K, .int .i64 g.P.V, .slice ga g.E.length gc]] w fun e w' => e = .returned (.string ⟨(textF g).toArray⟩) ∧ Below w.heap.size w w' := by
  obtain ⟨h1, h2, h3, h4, h5, h6⟩ := ok_small hok hokg
  exact rText_any d da dc g ga gc w hE (by omega)

theorem text_whole (g : Fr) : wholeB (textF g) = true := by
  unfold textF
  rw [wrapL_eq]
  exact whole_bits _ (wrapB_bits _ (frBits_all g))

/-- The chapter's example. -/
def c0 : Cf := ⟨6, 4, 0, 0, 0, []⟩
def f0 : Fr := ⟨1, 0, 0, ⟨0, 0⟩, []⟩
theorem c0_ok : c0.Ok where
  n6 := by decide
  n12 := by decide
  e0 := by decide
  e1 := by decide
  g0 := by decide
  g1 := by decide
  f0 := by decide
  f1 := by decide
  p0 := by decide
  p1 := by decide
  len := by decide
  all := by intro a ha; cases ha

end Go.Proofs.YthhmedlefahccaaGreatDoor
/-
  What the laws hold on to while frames are read: the network's box.
-/
namespace Go.Proofs.YthhmedlefahccaaGreatDoor
open Go.RowKit Plait
set_option maxRecDepth 100000
set_option linter.unusedVariables false

/-- The network d lies boxed at db; all that lay at the start is as it was. -/
def HeldD (d : Cf) (da : Option Addr) (dc db : Nat) (w W : World) : Prop := Below w.heap.size w W ∧ Blk W db 24 (confBox d da dc)

theorem HeldD.next {d : Cf} {da : Option Addr} {dc db : Nat} {w W W' : World} (h : HeldD d da dc db w W) (hb : Below W.heap.size W W') : HeldD d da dc db w W' := ⟨h.1.trans (hb.mono h.1.size), h.2.later hb⟩
theorem HeldD.drew {d : Cf} {da : Option Addr} {dc db : Nat} {w W : World} (h : HeldD d da dc db w W) : HeldD d da dc db w W.drew := h.next (Below.refl _ _).drew
theorem HeldD.alloc {d : Cf} {da : Option Addr} {dc db : Nat} {w W : World} (h : HeldD d da dc db w W) (o : Obj) : HeldD d da dc db w (W.alloc o) := h.next (alloc_below _ _)
theorem HeldD.set {d : Cf} {da : Option Addr} {dc db : Nat} {w W : World} (h : HeldD d da dc db w W) {g : Nat} (hg : w.heap.size ≤ g ∧ db < g) (k : Nat) (u : Value) : HeldD d da dc db w (W.setCell ⟨g, k, none⟩ u) :=
  ⟨h.1.setCell (by show w.heap.size ≤ g; omega) u, h.2.far (by show db ≠ g; omega) u⟩
theorem HeldD.set6 {d : Cf} {da : Option Addr} {dc db : Nat} {w W : World} (h : HeldD d da dc db w W) {g : Nat} (hg : w.heap.size ≤ g ∧ db < g) (u0 u1 u2 u3 u4 u5 : Value) :
    HeldD d da dc db w ((((((W.setCell ⟨g, 0, none⟩ u0).setCell ⟨g, 1, none⟩ u1).setCell ⟨g, 2, none⟩ u2).setCell ⟨g, 3, none⟩ u3).setCell ⟨g, 4, none⟩ u4).setCell ⟨g, 5, none⟩ u5) := (((((h.set hg 0 u0).set hg 1 u1).set hg 2 u2).set hg 3 u3).set hg 4 u4).set hg 5 u5
theorem HeldD.new {d : Cf} {da : Option Addr} {dc db : Nat} {w W : World} (h : HeldD d da dc db w W) : w.heap.size ≤ W.heap.size ∧ db < W.heap.size := ⟨h.1.size, h.2.lt⟩
theorem HeldD.cells {d : Cf} {da : Option Addr} {dc db : Nat} {w W : World} (h : HeldD d da dc db w W) : W.cell? ⟨db, 0, none⟩ = some (.int .i64 d.N) ∧ W.cell? ⟨db, 1, none⟩ = some (.int .i64 d.Pi) ∧ W.cell? ⟨db, 2, none⟩ = some (.int .i64 d.E) ∧ W.cell? ⟨db, 3, none⟩ = some (.int .i64 d.G) ∧ W.cell? ⟨db, 4, none⟩ = some (.int .i64 d.F) ∧ W.cell? ⟨db, 5, none⟩ = some (.slice da d.P.length dc) :=
  ⟨by rw [h.2.at]; rfl, by rw [h.2.at]; rfl, by rw [h.2.at]; rfl, by rw [h.2.at]; rfl, by rw [h.2.at]; rfl, by rw [h.2.at]; rfl⟩

/-- The frame f's box, too. -/
def HeldDF (d : Cf) (da : Option Addr) (dc db : Nat) (f : Fr) (fa : Option Addr) (fc : Nat) (w W : World) : Prop := HeldD d da dc db w W ∧ Blk W (w.heap.size + 1) 32 (frBox f fa fc)
theorem HeldDF.next {d : Cf} {da : Option Addr} {dc db : Nat} {f : Fr} {fa : Option Addr} {fc : Nat} {w W W' : World} (h : HeldDF d da dc db f fa fc w W) (hb : Below W.heap.size W W') : HeldDF d da dc db f fa fc w W' := ⟨h.1.next hb, h.2.later hb⟩
theorem HeldDF.cells {d : Cf} {da : Option Addr} {dc db : Nat} {f : Fr} {fa : Option Addr} {fc : Nat} {w W : World} (h : HeldDF d da dc db f fa fc w W) : W.cell? ⟨db, 0, none⟩ = some (.int .i64 d.N) ∧ W.cell? ⟨db, 1, none⟩ = some (.int .i64 d.Pi) ∧ W.cell? ⟨db, 2, none⟩ = some (.int .i64 d.E) ∧ W.cell? ⟨db, 3, none⟩ = some (.int .i64 d.G) ∧ W.cell? ⟨db, 4, none⟩ = some (.int .i64 d.F) ∧ W.cell? ⟨db, 5, none⟩ = some (.slice da d.P.length dc) ∧
    W.cell? ⟨w.heap.size + 1, 0, none⟩ = some (.int .i64 f.K) ∧ W.cell? ⟨w.heap.size + 1, 1, none⟩ = some (.int .i64 f.R) ∧ W.cell? ⟨w.heap.size + 1, 2, none⟩ = some (.int .i64 f.S) ∧ W.cell? ⟨w.heap.size + 1, 3, none⟩ = some (.int .i64 f.P.K) ∧ W.cell? ⟨w.heap.size + 1, 4, none⟩ = some (.int .i64 f.P.V) ∧ W.cell? ⟨w.heap.size + 1, 5, none⟩ = some (.slice fa f.E.length fc) :=
  ⟨by rw [h.1.2.at]; rfl, by rw [h.1.2.at]; rfl, by rw [h.1.2.at]; rfl, by rw [h.1.2.at]; rfl, by rw [h.1.2.at]; rfl, by rw [h.1.2.at]; rfl, by rw [h.2.at]; rfl, by rw [h.2.at]; rfl, by rw [h.2.at]; rfl, by rw [h.2.at]; rfl, by rw [h.2.at]; rfl, by rw [h.2.at]; rfl⟩

/-- Read, where its answer is known. -/
theorem fRead_to (d : Cf) (da : Option Addr) (dc : Nat) (t : List UInt8) (w : World) (hok : d.Ok) (hs : t.length ≤ 1048576) (p : Fr) (er : Int) (h : readF d t = (p, er)) :
    Calls Tryz.prog 132 #[.agg #[.int .i64 d.N, .int .i64 d.Pi, .int .i64 d.E, .int .i64 d.G, .int .i64 d.F, .slice da d.P.length dc], .string ⟨t.toArray⟩] w fun e w' => ∃ (a : Option Addr) (cap : Nat), e = .returned (.tuple #[.agg #[.int .i64 p.K, .int .i64 p.R, .int .i64 p.S, .int .i64 p.P.K, .int .i64 p.P.V, .slice a p.E.length cap], .int .i64 er]) ∧ RowT w' a p.E ∧ Below w.heap.size w w' := by
  have hr := fRead_any d da dc t w hok hs
  rw [h] at hr
  exact hr.mono fun e w' ⟨a, cap, h1, h2, _, h3⟩ => ⟨a, cap, h1, h2, h3⟩

theorem fRead_at (d : Cf) (da : Option Addr) (dc : Nat) (t : List UInt8) (w : World) (hok : d.Ok) (hs : t.length ≤ 1048576) (p : Fr) (er : Int) (h : readF d t = (p, er)) :
    Calls Tryz.prog 132 #[.agg #[.int .i64 d.N, .int .i64 d.Pi, .int .i64 d.E, .int .i64 d.G, .int .i64 d.F, .slice da d.P.length dc], .string ⟨t.toArray⟩] w fun e w' => ∃ (a : Option Addr) (cap : Nat), e = .returned (.tuple #[.agg #[.int .i64 p.K, .int .i64 p.R, .int .i64 p.S, .int .i64 p.P.K, .int .i64 p.P.V, .slice a p.E.length cap], .int .i64 er]) ∧ RowT w' a p.E ∧ (∀ x, a = some x → w.heap.size ≤ x.block) ∧ Below w.heap.size w w' := by
  have hr := fRead_any d da dc t w hok hs
  rw [h] at hr
  exact hr

theorem turn_length (l : List UInt8) (i : Int) : (turn l i).length = l.length := by unfold turn; split <;> simp

/-- A new box of a frame, where a call has made memory since. -/
theorem box_since {w wm : World} (hb : Below (w.alloc (.cells zeroBox 32)).drew.heap.size (w.alloc (.cells zeroBox 32)).drew wm) : Blk wm w.heap.size 32 zeroBox := (Blk.drew1 (Blk.new w _ _)).later hb

end Go.Proofs.YthhmedlefahccaaGreatDoor

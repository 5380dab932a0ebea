/-
  MidKnown's walk.
-/
import Derived.Test.YtphjobeiindeeaaMid5
namespace Go.Proofs.Ytphjobeiindeeaa
open Go.RowKit Plait
set_option maxRecDepth 100000
set_option linter.unusedVariables false

/-- The rows, and what they come to. -/
def kRows : List (List Int) := [[1, 2, 3, 4], [4, 3, 2, 1], [-1, -2, -3, -4], [5, 5, 5, 5], [0, 0, 0, 1000], [-9, 0, 1, 1], [0, 0, -1, -1], [7, 1, 5, 3, 9], [1, 100, 1, 100], [0, 1, 2, 3, 4, 5, 6], [-100, -7, -4, 50]]
def kMids : List Int := [2, 2, -3, 5, 0, 0, -1, 5, 50, 3, -6]
theorem k_all : ∀ k, k < 11 → (kRows.getD k []).length ≤ 7 ∧ 4 ≤ (kRows.getD k []).length ∧ midI (kRows.getD k []) = kMids.getD k 0 ∧ ∀ z ∈ kRows.getD k [], -1000 ≤ z ∧ z ≤ 1000 := by decide +kernel

/-- Rows laid one behind the other. -/
def laidK (w : World) (R : List (List Int)) : World := R.foldl (fun W zs => W.alloc (.cells (zs.map (Value.int .i64)).toArray 3)) w
theorem laidK_size : ∀ (R : List (List Int)) (w : World), (laidK w R).heap.size = w.heap.size + R.length
  | [], w => rfl
  | zs :: R, w => by
    have h := laidK_size R (w.alloc (.cells (zs.map (Value.int .i64)).toArray 3))
    show (laidK (w.alloc (.cells (zs.map (Value.int .i64)).toArray 3)) R).heap.size = _
    rw [h]
    simp
    omega
theorem laidK_below : ∀ (R : List (List Int)) (w : World), Below w.heap.size w (laidK w R)
  | [], w => Below.refl _ _
  | zs :: R, w => by
    have h := laidK_below R (w.alloc (.cells (zs.map (Value.int .i64)).toArray 3))
    exact (alloc_below w _).trans (h.mono (alloc_below w _).size)
theorem laidK_row : ∀ (R : List (List Int)) (w : World) (k : Nat), k < R.length → (∀ zs ∈ R, zs.length ≤ 1000 ∧ ∀ z ∈ zs, -1000 ≤ z ∧ z ≤ 1000) → Row (laidK w R) (some ⟨w.heap.size + k, 0, none⟩) (R.getD k [])
  | [], w, k, h, _ => absurd h (Nat.not_lt_zero _)
  | zs :: R, w, 0, _, hz => by
    have h := laidK_below R (w.alloc (.cells (zs.map (Value.int .i64)).toArray 3))
    have h1 := hz zs (by simp)
    exact (Row.made w zs 3 (by omega) (fun z q => by have := h1.2 z q; omega)).later h
  | zs :: R, w, k + 1, h, hz => by
    have h1 := laidK_row R (w.alloc (.cells (zs.map (Value.int .i64)).toArray 3)) k (by simpa using h) (fun y hy => hz y (List.mem_cons_of_mem _ hy))
    have e : (w.alloc (.cells (zs.map (Value.int .i64)).toArray 3)).heap.size + k = w.heap.size + (k + 1) := by simp; omega
    rw [e] at h1
    exact h1
def tblK (b : Nat) : Array Value := #[.slice (some ⟨b, 0, none⟩) 4 4, .slice (some ⟨b + 1, 0, none⟩) 4 4, .slice (some ⟨b + 1 + 1, 0, none⟩) 4 4, .slice (some ⟨b + 1 + 1 + 1, 0, none⟩) 4 4, .slice (some ⟨b + 1 + 1 + 1 + 1, 0, none⟩) 4 4, .slice (some ⟨b + 1 + 1 + 1 + 1 + 1, 0, none⟩) 4 4, .slice (some ⟨b + 1 + 1 + 1 + 1 + 1 + 1, 0, none⟩) 4 4,
  .slice (some ⟨b + 1 + 1 + 1 + 1 + 1 + 1 + 1, 0, none⟩) 5 5, .slice (some ⟨b + 1 + 1 + 1 + 1 + 1 + 1 + 1 + 1, 0, none⟩) 4 4, .slice (some ⟨b + 1 + 1 + 1 + 1 + 1 + 1 + 1 + 1 + 1, 0, none⟩) 7 7, .slice (some ⟨b + 1 + 1 + 1 + 1 + 1 + 1 + 1 + 1 + 1 + 1, 0, none⟩) 4 4]
theorem tblK_get (b k : Nat) (hk : k < 11) : (tblK b)[k]? = some (.slice (some ⟨b + k, 0, none⟩) (kRows.getD k []).length (kRows.getD k []).length) := by
  rcases (by omega : k = 0 ∨ k = 1 ∨ k = 2 ∨ k = 3 ∨ k = 4 ∨ k = 5 ∨ k = 6 ∨ k = 7 ∨ k = 8 ∨ k = 9 ∨ k = 10) with rfl | rfl | rfl | rfl | rfl | rfl | rfl | rfl | rfl | rfl | rfl <;> rfl
/-- What the table comes to. -/
theorem k_table (w wn : World) (hB : Below w.heap.size w wn) : Below w.heap.size w ((laidK wn kRows).alloc (.cells (tblK wn.heap.size) 22)) ∧ wn.heap.size + 11 < ((laidK wn kRows).alloc (.cells (tblK wn.heap.size) 22)).heap.size ∧
    ∀ k : Nat, k < 11 → ∃ g : Nat, ((laidK wn kRows).alloc (.cells (tblK wn.heap.size) 22)).cell? ⟨wn.heap.size + 11, k, none⟩ = some (.slice (some ⟨g, 0, none⟩) (kRows.getD k []).length (kRows.getD k []).length) ∧ Row ((laidK wn kRows).alloc (.cells (tblK wn.heap.size) 22)) (some ⟨g, 0, none⟩) (kRows.getD k []) := by
  have hs : (laidK wn kRows).heap.size = wn.heap.size + 11 := laidK_size kRows wn
  have h1 := hB.trans ((laidK_below kRows wn).mono hB.size)
  refine ⟨h1.alloc h1.size _, by simp [hs], fun k hk => ⟨wn.heap.size + k, ?_, ?_⟩⟩
  · have hb : Blk ((laidK wn kRows).alloc (.cells (tblK wn.heap.size) 22)) (wn.heap.size + 11) 22 (tblK wn.heap.size) := Blk.newAt _ _ hs
    exact (hb.at k).trans (tblK_get _ k hk)
  · exact (laidK_row kRows wn k hk (by decide)).alloc _

set_option maxHeartbeats 6400000 in
theorem midKnown_walk (wh : Int) (w : World) (x1 : -9223372036854775808 ≤ wh) (x2 : wh ≤ 9223372036854775807) :
    Calls Try.prog 7 #[.int .i64 wh] w fun e w' => e = .returned (.bool true) ∧ Below w.heap.size w w' := by
  have hB : Below w.heap.size w w := Below.refl _ _
  go_enter Try.func7, Try.ntmps7
  go_wp2_with fail
  refine (known11_any _).mono ?_
  rintro e wn ⟨rfl, hb⟩
  replace hB := hB.trans (hb.mono hB.size)
  clear hb
  go_upto_region 3 with fail
  go_cut [3] (fun s wx => Below w.heap.size w wx ∧ ∃ tb : Nat, s = .slice (some ⟨tb, 0, none⟩) 11 11 ∧ tb < wx.heap.size ∧ ∀ k : Nat, k < 11 → ∃ g : Nat, wx.cell? ⟨tb, k, none⟩ = some (.slice (some ⟨g, 0, none⟩) (kRows.getD k []).length (kRows.getD k []).length) ∧ Row wx (some ⟨g, 0, none⟩) (kRows.getD k []))
  case first =>
    go_wp2_with fail
    go_meet
    obtain ⟨t1, t2, t3⟩ := k_table w wn hB
    exact ⟨t1, wn.heap.size + 11, rfl, t2, t3⟩
  case rest =>
    obtain ⟨hBc, tb, rfl, htb, htab⟩ := hcut
    go_wp2_with fail
    refine (within11_any wh 11 _ (by omega) (by omega)).mono ?_
    rintro e wl ⟨rfl, rfl⟩
    have p0 := Int.emod_nonneg wh (show (11 : Int) ≠ 0 by omega)
    have p1 := Int.emod_lt_of_pos wh (show (0 : Int) < 11 by omega)
    generalize wh % 11 = kk at *
    obtain ⟨k, hk⟩ : ∃ k : Nat, kk = k := ⟨kk.toNat, by omega⟩
    subst hk
    have hk : k < 11 := by omega
    obtain ⟨g, hc, hr⟩ := htab k hk
    obtain ⟨l1, l2, hm, hz⟩ := k_all k hk
    have ho : (wc.alloc (.cells #[.int .i64 2, .int .i64 2, .int .i64 (-3), .int .i64 5, .int .i64 0, .int .i64 0, .int .i64 (-1), .int .i64 5, .int .i64 50, .int .i64 3, .int .i64 (-6)] 3)).cell? ⟨wc.heap.size, k, none⟩ = some (.int .i64 (kMids.getD k 0)) := by
      rw [(Blk.new wc 3 _).at k]
      rcases (by omega : k = 0 ∨ k = 1 ∨ k = 2 ∨ k = 3 ∨ k = 4 ∨ k = 5 ∨ k = 6 ∨ k = 7 ∨ k = 8 ∨ k = 9 ∨ k = 10) with rfl | rfl | rfl | rfl | rfl | rfl | rfl | rfl | rfl | rfl | rfl <;> rfl
    have hcc := fun (o : Obj) => ((alloc_below wc o).cell (p := ⟨tb, k, none⟩) htb).trans hc
    have g0 : (0 : Int) ≤ (k : Int) := by omega
    have g1 : (k : Int) < 11 := by omega
    have hBd := hBc.alloc hBc.size (.cells #[.int .i64 2, .int .i64 2, .int .i64 (-3), .int .i64 5, .int .i64 0, .int .i64 0, .int .i64 (-1), .int .i64 5, .int .i64 50, .int .i64 3, .int .i64 (-6)] 3)
    have hrd := hr.alloc (.cells #[.int .i64 2, .int .i64 2, .int .i64 (-3), .int .i64 5, .int .i64 0, .int .i64 0, .int .i64 (-1), .int .i64 5, .int .i64 50, .int .i64 3, .int .i64 (-6)] 3)
    have hlw : wc.heap.size < (wc.alloc (.cells #[.int .i64 2, .int .i64 2, .int .i64 (-3), .int .i64 5, .int .i64 0, .int .i64 0, .int .i64 (-1), .int .i64 5, .int .i64 50, .int .i64 3, .int .i64 (-6)] 3)).heap.size := by simp
    have hc := hcc (.cells #[.int .i64 2, .int .i64 2, .int .i64 (-3), .int .i64 5, .int .i64 0, .int .i64 0, .int .i64 (-1), .int .i64 5, .int .i64 50, .int .i64 3, .int .i64 (-6)] 3)
    have HM := Lib.hid hm
    clear hcc hr hm htab
    generalize kRows.getD k [] = zs at *
    generalize kMids.getD k 0 = mm at *
    generalize wc.alloc (.cells #[.int .i64 2, .int .i64 2, .int .i64 (-3), .int .i64 5, .int .i64 0, .int .i64 0, .int .i64 (-1), .int .i64 5, .int .i64 50, .int .i64 3, .int .i64 (-6)] 3) = wd at *
    go_wp2_with fail
    refine (mid_any _ zs _ _ hrd (by omega) (fun z h => by have := hz z h; omega)).mono ?_
    rintro e w7 ⟨rfl, hb7⟩
    rw [midR_is l2, HM.out]
    have hBe := hBd.trans (hb7.mono hBd.size)
    have ho7 := (hb7.cell (p := ⟨wc.heap.size, k, none⟩) hlw).trans ho
    clear hb7 ho hc
    go_wp2
    go_ret
    exact ⟨rfl, hBe⟩

end Go.Proofs.Ytphjobeiindeeaa

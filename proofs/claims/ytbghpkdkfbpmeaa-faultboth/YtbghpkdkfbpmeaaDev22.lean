/-
  slices.Repeat of one item: a row of so many of it.
-/
import Derived.Test.YtbghpkdkfbpmeaaDev20
import Derived.Test.YtbghpkdkfbpmeaaBits6
import Derived.Laws.CopyRow
import Derived.Deep.RegionLaw
namespace Go.Proofs.Ytbghpkdkfbpmeaa
open Go.RowKit Plait
set_option maxRecDepth 100000
set_option linter.unusedVariables false

/-- copy between rows of items, into a row that is known whole. -/
theorem run_copy_items (w : World) (ty : TypeId) (g o dLen dCap : Nat) (a : Addr) (sLen sCap : Nat) (cur : Array Value) (t : TypeId) (cs : List Value)
    (hg : w.heap[g]? = some (.cells cur t (0, 0))) (hn : cs.length = Nat.min sLen dLen * 2)
    (hsrc : ∀ j v, cs[j]? = some v → w.cell? (a.add j) = some v) (hfit : o + cs.length ≤ cur.size) (h1 : ∀ v ∈ cs, v.oneCell' = true) :
    (Builtin.copy_ #[80, 80] ty #[.slice (some ⟨g, o, none⟩) dLen dCap, .slice (some a) sLen sCap]).run Try.prog w =
      .ok (goInt (Nat.min sLen dLen)) (w.setRow g (cur.toList.take o ++ cs ++ cur.toList.drop (o + cs.length)).toArray) := by
  have hl := run_loadCells_list (P := Try.prog) w a cs hsrc
  have hst := run_storeCells_at Try.prog g o t cs 0 cur w hg (by simpa using hfit) h1
  obtain ⟨i, hi, hz0, hz1, hz2⟩ := info_parts infoItem
  simp [Builtin.copy_, run_underlying Try.underlying80, Builtin.lenOf, Builtin.firstCells, sizeOf, typeInfo, hi, hz1, ← hn, hl, hst]

theorem itCells_rep (t : It) (n k : Nat) : itCells (List.replicate (n + k) t) = itCells (List.replicate n t) ++ itCells (List.replicate k t) := by
  rw [← itCells_append, List.replicate_append_replicate]

/-- So far filled. -/
structure RepAt (t : It) (m g n : Nat) (W : World) : Prop where
  ex : ∃ cur : Array Value, Blk W g 79 cur ∧ cur.size = m * 2 ∧ cur.toList.take (n * 2) = itCells (List.replicate n t)

theorem RepAt.row {t : It} {m g : Nat} {W : World} (h : RepAt t m g m W) (hm : m ≤ 1000000) (hK : inI t.K) (hV : inI t.V) : RowT W (some ⟨g, 0, none⟩) (List.replicate m t) := by
  obtain ⟨cur, hk, hs, hc⟩ := h.ex
  refine ⟨by simp; omega, fun u hu => by rw [List.eq_of_mem_replicate hu]; exact ⟨hK, hV⟩, .inr ⟨g, 0, rfl, hk.lt, fun i hi => ?_⟩⟩
  have hl : cur.toList = itCells (List.replicate m t) := by rw [← hc, List.take_of_length_le (by simp; omega)]
  have h2 := itCells_get _ i hi
  constructor
  · rw [hk.at, ← Array.getElem?_toList, hl, Nat.zero_add]; exact h2.1
  · rw [hk.at, ← Array.getElem?_toList, hl, Nat.zero_add]; exact h2.2

/-- One step: k items more. -/
theorem rep_step {t : It} {m n k : Nat} {cur : Array Value} (hs : cur.size = m * 2) (hc : cur.toList.take (n * 2) = itCells (List.replicate n t)) (hk : n + k ≤ m) :
    (cur.toList.take (n * 2) ++ itCells (List.replicate k t) ++ cur.toList.drop (n * 2 + (itCells (List.replicate k t)).length)).toArray.size = m * 2 ∧
    (cur.toList.take (n * 2) ++ itCells (List.replicate k t) ++ cur.toList.drop (n * 2 + (itCells (List.replicate k t)).length)).toArray.toList.take ((n + k) * 2) = itCells (List.replicate (n + k) t) := by
  have hl : (itCells (List.replicate k t)).length = k * 2 := by rw [itCells_len]; simp
  have hl2 : (itCells (List.replicate n t)).length = n * 2 := by rw [itCells_len]; simp
  constructor
  · simp [hl]; omega
  · simp only [hc]
    rw [List.take_append_of_le_length (by rw [List.length_append, hl, hl2]; omega), List.take_of_length_le (by rw [List.length_append, hl, hl2]; omega), ← itCells_rep]

theorem made_items (m : Nat) (hm : m ≤ 1000000) : ∃ M : Array Value, M.size = m * 2 ∧ ∀ W : World, (Instr.makeSlice 80 (.int .i64 (m : Int)) (.int .i64 (m : Int))).run Try.prog W = .ok (.slice (some ⟨W.heap.size, 0, none⟩) m m) (W.alloc (.cells M 79)) := by
  obtain ⟨i, hi, hz0, hz1, hz2⟩ := info_parts infoItem
  refine ⟨madeCells (Value.agg #[.int .i64 0, .int .i64 0]).cells (((m : Nat) : Int).toNat * i.size), by rw [size_madeCells, hz1]; simp, fun W => ?_⟩
  have h := run_make (P := Try.prog) W 80 79 i (.agg #[.int .i64 0, .int .i64 0]) Try.underlying80 hi hz0 .i64 .i64 (m : Int) (m : Int) (by omega) (by omega) (by rw [hz2]; omega) (by omega)
  simpa using h

theorem setRow_blk {w : World} {g : Nat} {t : TypeId} {cur : Array Value} (h : Blk w g t cur) (cs : Array Value) : Blk (w.setRow g cs) g t cs := setRow_heap w g cur cs t (0, 0) h

/-- A copy of k items more into the row. -/
theorem rep_copy {t : It} {m g n k : Nat} {W : World} (h : RepAt t m g n W) (a : Addr) (dLen dCap sLen sCap : Nat) (hk : k = Nat.min sLen dLen) (hnk : n + k ≤ m) (hsrc : ∀ j, j < k → W.cell? (a.add (j * 2)) = some (.int .i64 t.K) ∧ W.cell? (a.add (j * 2 + 1)) = some (.int .i64 t.V)) :
    ∃ W' : World, (∀ ty, (Builtin.copy_ #[80, 80] ty #[.slice (some ⟨g, n * 2, none⟩) dLen dCap, .slice (some a) sLen sCap]).run Try.prog W = .ok (.int .i64 (k : Int)) W') ∧ RepAt t m g (n + k) W' ∧ ∀ B w0, Below B w0 W → B ≤ g → Below B w0 W' := by
  obtain ⟨cur, hB, hs, hc⟩ := h.ex
  have hl : (itCells (List.replicate k t)).length = k * 2 := by rw [itCells_len]; simp
  have hst := rep_step hs hc hnk (t := t)
  refine ⟨W.setRow g (cur.toList.take (n * 2) ++ itCells (List.replicate k t) ++ cur.toList.drop (n * 2 + (itCells (List.replicate k t)).length)).toArray, fun ty => ?_, ⟨_, setRow_blk hB _, hst.1, hst.2⟩, fun B w0 hb hBg => hb.trans ⟨rfl, rfl, rfl, by simp [World.setRow], fun j hj => setRow_other W g j _ (by omega)⟩⟩
  rw [run_copy_items W ty g (n * 2) dLen dCap a sLen sCap cur 79 (itCells (List.replicate k t)) hB (by rw [hl, hk]) ?_ (by rw [hl, hs]; omega) (itCells_one _), ← hk]
  · rfl
  · intro j v hj
    have hlt : j < k * 2 := by
      rcases Nat.lt_or_ge j (k * 2) with h' | h'
      · exact h'
      · rw [List.getElem?_eq_none (by omega)] at hj; cases hj
    obtain ⟨q, hq⟩ : ∃ q, j = q * 2 ∨ j = q * 2 + 1 := ⟨j / 2, by omega⟩
    have hg := itCells_get (List.replicate k t) q (by simp; omega)
    rcases hq with rfl | rfl
    · rw [hg.1] at hj
      rw [← hj, List.getElem_replicate]
      exact (hsrc q (by omega)).1
    · rw [hg.2] at hj
      rw [← hj, List.getElem_replicate]
      exact (hsrc q (by omega)).2

theorem RepAt.cells {t : It} {m g n : Nat} {W : World} (h : RepAt t m g n W) (j : Nat) (hj : j < n) : W.cell? ⟨g, j * 2, none⟩ = some (.int .i64 t.K) ∧ W.cell? ⟨g, j * 2 + 1, none⟩ = some (.int .i64 t.V) := by
  obtain ⟨cur, hk, hs, hc⟩ := h.ex
  have hg := itCells_get (List.replicate n t) j (by simpa using hj)
  rw [List.getElem_replicate, ← hc] at hg
  rw [List.getElem?_take, if_pos (by omega), List.getElem?_take, if_pos (by omega)] at hg
  exact ⟨by rw [hk.at, ← Array.getElem?_toList]; exact hg.1, by rw [hk.at, ← Array.getElem?_toList]; exact hg.2⟩
theorem RepAt.drew {t : It} {m g n : Nat} {W : World} (h : RepAt t m g n W) : RepAt t m g n W.drew := ⟨h.ex⟩

set_option maxHeartbeats 1600000 in
theorem lrepeat_any (t : It) (H c m : Nat) (w : World) (hH : Blk w H 79 #[.int .i64 t.K, .int .i64 t.V]) (hm : m ≤ 1000) (hK : inI t.K) (hV : inI t.V) :
    Calls Try.prog 50 #[.slice (some ⟨H, 0, none⟩) 1 c, .int .i64 m] w fun e w' => ∃ (a : Option Addr) (cap : Nat), e = .returned (.slice a m cap) ∧ RowT w' a (List.replicate m t) ∧ (∀ x, a = some x → w.heap.size ≤ x.block) ∧ Below w.heap.size w w' := by
  obtain ⟨M, hM, hmake⟩ := made_items m (by omega)
  have hmul := Lib.hid (fun W => Try.bits_Mul6 1 m (by omega) (by omega) W)
  have e1 : 1 * m / 18446744073709551616 = 0 := by omega
  have e2 : 1 * m % 18446744073709551616 = m := by omega
  rw [e1, e2] at hmul
  have hHa := (hH.alloc (.cells M 79)).at
  obtain ⟨k0, hk0⟩ : ∃ k, k = Nat.min 1 m := ⟨_, rfl⟩
  have hk1 : k0 ≤ 1 := by rw [hk0]; exact Nat.min_le_left _ _
  have hk2 : k0 ≤ m := by rw [hk0]; exact Nat.min_le_right _ _
  have hk3 : m = 0 ∨ 0 < k0 := by
    rcases Nat.eq_zero_or_pos m with h | h
    · exact .inl h
    · exact .inr (by rw [hk0]; exact Nat.lt_min.2 ⟨by omega, h⟩)
  have hR0 : RepAt t m w.heap.size 0 (w.alloc (.cells M 79)) := ⟨M, Blk.new w _ _, hM, by simp [itCells]⟩
  obtain ⟨W1, hcopy, hR1, hB1⟩ := rep_copy hR0 ⟨H, 0, none⟩ m m 1 c hk0 (by omega) (fun j hj => by
    have : j = 0 := by omega
    subst this
    rw [addr_at, addr_at]
    exact ⟨by rw [hHa]; rfl, by rw [hHa]; rfl⟩)
  have hB := hB1 _ _ (alloc_below w (.cells M 79)) (Nat.le_refl _)
  rw [Nat.zero_mul] at hcopy
  rw [Nat.zero_add] at hR1
  clear hM e1 e2 hHa hR0 hB1 hk0 hH
  go_enter Try.func50, Try.ntmps50
  go_wp2_with fail
  refine (hmul.out _).mono ?_
  rintro e wl ⟨rfl, rfl⟩
  go_wp2_with fail
  clear hcopy hmake hmul
  go_loopw [8] (fun v w' => ∃ n : Nat, n ≤ m ∧ (m = 0 ∨ 0 < n) ∧ v = .int .i64 n ∧ RepAt t m wl.heap.size n w' ∧ Below wl.heap.size wl w') (fun v _ => m - (intOf v).toNat)
  case atStart => exact ⟨k0, hk2, hk3, rfl, hR1, hB⟩
  case round =>
    obtain ⟨n, hn, hn0, rfl, hR, hb⟩ := hrel
    clear hB hR1
    by_cases hlt : n < m
    · have d1 : decide ((n : Int) < (m : Int)) = true := by simp; omega
      obtain ⟨k, hk⟩ : ∃ k, k = Nat.min n (m - n) := ⟨_, rfl⟩
      have hk5 : k ≤ m - n := by rw [hk]; exact Nat.min_le_right _ _
      have hk1 : n + k ≤ m := by omega
      have hk4 : k ≤ n := by rw [hk]; exact Nat.min_le_left _ _
      have hk2 : 0 < k := by rw [hk]; exact Nat.lt_min.2 ⟨by omega, by omega⟩
      obtain ⟨W2, hcopy, hR2, hB2⟩ := rep_copy hR.drew ⟨wl.heap.size, 0, none⟩ (m - n) (m - n) n m hk hk1 (fun j hj => by
        rw [addr_at, addr_at, Nat.zero_add, Nat.zero_add]
        exact hR.drew.cells j (by omega))
      have hb2 := hB2 _ _ hb.drew (Nat.le_refl _)
      clear hB2 hk
      go_wp2_with fail
      have z1 : IntKind.i64.wrap ((n : Int) + (k : Int)) = (n : Int) + k := wrap_in _ (by omega) (by omega)
      have hne : (m = n) = False := by simp; omega
      go_region_law (fail)
      all_goals go_simp
      all_goals go_wp2
      all_goals go_roundw
      case rel => exact ⟨n + k, by omega, .inr (by omega), by go_num, hR2, hb2⟩
      case measure => simp [intOf]; omega
    · have : n = m := by omega
      subst this
      go_wp2
      go_ret
      exact ⟨_, _, rfl, hR.row (by omega) hK hV, fun x hx => by injection hx with hx; subst hx; exact Nat.le_refl _, hb⟩

end Go.Proofs.Ytbghpkdkfbpmeaa

/-
  Appending a row that came in, or two numbers, to a row that the call made itself.
-/
import Derived.Test.YtphjobeiindeeaaBase
import Derived.Deep.AppendLies
namespace Go.Proofs.Ytphjobeiindeeaa
open Go.RowKit
set_option maxRecDepth 100000
set_option linter.unusedVariables false

theorem OwnI.lit (w : World) (zs : List Int) (base : Nat) (hb : base ≤ w.heap.size) (hl : zs.length ≤ 1000000) : OwnI base (w.alloc (.cells (zs.map (Value.int .i64)).toArray 3)) (.slice (some ⟨w.heap.size, 0, none⟩) zs.length zs.length) zs := by
  have h := World.ownsRow_lit (base := base) (e := 3) (size := 1) w (zs.map (Value.int .i64)).toArray zs.length hb (by unfold maxLen; omega) (by simp)
  unfold OwnI
  simpa using h

theorem run_app_none {P : Program} (w : World) (base : Nat) (t ty e : TypeId) (i : TypeInfo) (size : Nat) (ht : P.underlying t = some (.slice e)) (hi : P.info? e = some i)
    (v : Value) (n : Nat) (xs : List Value) (hown : w.ownsRow base e size v n xs) (c : Nat) : (Builtin.append_ #[t, t] ty #[v, .slice none 0 c]).run P w = .ok v w := by
  rcases hown.2 with ⟨rfl, rfl⟩ | ⟨g, cap, cur, rfl, _, _, hnc, _⟩
  · simp [Builtin.append_, run_underlying ht, sizeOf, typeInfo, hi, Builtin.lenOf, Builtin.firstCells]
  · simp [Builtin.append_, run_underlying ht, sizeOf, typeInfo, hi, Builtin.lenOf, Builtin.firstCells, hnc, storeCells]

theorem run_appR (w : World) (ty : TypeId) (base : Nat) (v : Value) (zs : List Int) (hown : OwnI base w v zs) (A : Option Addr) (ys : List Int) (c : Nat) (hr : Row w A ys) (hlen : zs.length ≤ 1000000) (hlen2 : ys.length ≤ 1000000) (hbase : base ≤ w.heap.size) :
    ∃ v' w', (Builtin.append_ #[22, 22] ty #[v, .slice A ys.length c]).run Try.prog w = .ok v' w' ∧ OwnI base w' v' (zs ++ ys) ∧ w.grownBy w' v.ownBlock := by
  obtain ⟨i, hi, hz0, hz1, hz2⟩ := info_parts infoInt
  cases A with
  | none =>
    have hy : ys = [] := by
      rcases hr.2.2 with h | ⟨b, off, h, _⟩
      · exact h
      · cases h
    subst hy
    refine ⟨v, w, run_app_none w base _ ty 3 i 1 Try.underlying22 hi v zs.length _ hown c, by rw [List.append_nil]; exact hown, World.grownBy.refl w _⟩
  | some ad =>
    have hcells : ∀ j u, (ys.map (Value.int .i64))[j]? = some u → w.cell? (ad.add j) = some u := by
      intro j u hu
      rcases hr.2.2 with h | ⟨b, off, h, _, hc⟩
      · subst h; simp at hu
      · injection h with h
        subst h
        rw [List.getElem?_map] at hu
        obtain ⟨y, hy, rfl⟩ := Option.map_eq_some_iff.1 hu
        obtain ⟨hj, rfl⟩ := List.getElem?_eq_some_iff.1 hy
        rw [addr_at]
        exact hc j hj
    obtain ⟨v', w', hrun, h2, h3, _, _⟩ := run_append_own_at (P := Try.prog) w base 22 ty 3 i (.int .i64 0) 1 8 Try.underlying22 hi hz0 hz1 hz2 rfl (by omega) v zs.length _ hown ad ys.length c (ys.map (Value.int .i64)) (by simp) hcells
      (ints_oneCell .i64 ys) (by unfold maxLen; omega) (by omega) hbase
    refine ⟨v', w', hrun, ?_, h3⟩
    unfold OwnI
    rw [List.length_append, List.map_append]
    exact h2

/-- At a plain region's list. -/
theorem wpList_appR {ops : Array Oper} {rest : List Oper} {o : Oper} {a : Act} {Q : Exit → Act → World → Prop} (w : World) (hgd : o.guard = none) (s x : Operand)
    (ho : o.op = .call { callee := .builtin .append, args := #[s, x], argTypes := #[22, 22] })
    (base : Nat) (v : Value) (zs : List Int) (hs : a.eval s = v) (hown : OwnI base w v zs) (A : Option Addr) (ys : List Int) (c : Nat) (hx : a.eval x = .slice A ys.length c) (hr : Row w A ys) (hlen : zs.length ≤ 1000000) (hlen2 : ys.length ≤ 1000000) (hbase : base ≤ w.heap.size)
    (h : ∀ v' w', OwnI base w' v' (zs ++ ys) → w.grownBy w' v.ownBlock → wpList Try.prog ops Q rest (a.put o.dst v') w') : wpList Try.prog ops Q (o :: rest) a w := by
  obtain ⟨v', w', hrun, h2, h3⟩ := run_appR w o.type base v zs hown A ys c hr hlen hlen2 hbase
  refine wpList_plain hgd fun _ hK => ?_
  unfold Oper.wp execOp
  simp only [ho, resolve, invoke, builtin, Sem.run_bind, Sem.run_pure, Result.andThen_ok, List.map_toArray, List.map_cons, List.map_nil, hs, hx, hrun]
  exact hK _ _ (h v' w' h2 h3)

/-- A row that the call made: where it lies. -/
theorem OwnI.at {base : Nat} {W : World} {a : Option Addr} {cap : Nat} {zs : List Int} (h : OwnI base W (.slice a zs.length cap) zs) (h0 : 0 < zs.length) :
    ∃ g, a = some ⟨g, 0, none⟩ ∧ base ≤ g ∧ g < W.heap.size ∧ (∀ i (hi : i < zs.length), W.cell? ⟨g, i, none⟩ = some (.int .i64 zs[i])) ∧ ∀ i, W.frozen? ⟨g, i, none⟩ = false := by
  rcases h.2 with ⟨_, hn⟩ | ⟨g, c, cur, hv, hb, hg, hc, hm, hs, ht⟩
  · omega
  · injection hv with hv
    refine ⟨g, hv, hb, (Blk.lt hg), fun i hi => ?_, Blk.frozen hg⟩
    have hi2 : i < cur.size := by rw [hs]; omega
    have ht2 : (cur.toList.take (zs.length * 1))[i]? = (zs.map (Value.int .i64))[i]? := by rw [ht]
    rw [List.getElem?_take_of_lt (by omega), List.getElem?_map, List.getElem?_eq_getElem hi] at ht2
    have hb2 : W.cell? ⟨g, i, none⟩ = cur[i]? := Blk.at hg i
    rw [hb2, ← Array.getElem?_toList, ht2]
    rfl

/-- One of its numbers laid anew. -/
theorem OwnI.put {base : Nat} {W : World} {g cap : Nat} {zs : List Int} (h : OwnI base W (.slice (some ⟨g, 0, none⟩) zs.length cap) zs) (i : Nat) (hi : i < zs.length) (v : Int) :
    OwnI base (W.setCell ⟨g, i, none⟩ (.int .i64 v)) (.slice (some ⟨g, 0, none⟩) (zs.set i v).length cap) (zs.set i v) := by
  obtain ⟨h1, h2⟩ := h
  refine ⟨by simp, ?_⟩
  rcases h2 with ⟨hv, hn⟩ | ⟨g', c, cur, hv, hb, hg, hc, hm, hs, ht⟩
  · injection hv with hv; cases hv
  · injection hv with hv hv2 hv3
    injection hv with hv
    injection hv with hv
    subst hv hv3
    refine .inr ⟨g, cap, cur.setIfInBounds i (.int .i64 v), by simp, hb, ?_, by simpa using hc, hm, by simpa using hs, ?_⟩
    · exact Blk.set (w := W) (t := 3) hg i (.int .i64 v)
    · rw [List.length_set, Array.toList_setIfInBounds, List.take_set, ht, List.map_set]

end Go.Proofs.Ytphjobeiindeeaa

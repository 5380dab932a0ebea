/-
  Rows of items: a store elsewhere, a store into one, a row appended to one that the call made itself.
-/
import Derived.Test.YtbghpkdkfbpmeaaLaw53
import Derived.Test.YtbghpkdkfbpmeaaSlots3
namespace Go.Proofs.Ytbghpkdkfbpmeaa
open Go.RowKit Plait
set_option maxRecDepth 100000
set_option linter.unusedVariables false

theorem RowT.far2 {w : World} {a : Option Addr} {ts : List It} (h : RowT w a ts) (g i : Nat) (u : Value) (hne : ts = [] ∨ ∀ x, a = some x → x.block ≠ g) : RowT (w.setCell ⟨g, i, none⟩ u) a ts := by
  obtain ⟨h1, h2, h3⟩ := h
  refine ⟨h1, h2, ?_⟩
  rcases h3 with h3 | ⟨b, off, rfl, hlt, hc⟩
  · exact .inl h3
  · rcases hne with hne | hne
    · exact .inl hne
    · have hb : b ≠ g := hne _ rfl
      refine .inr ⟨b, off, rfl, by simpa [World.setCell] using hlt, fun i hi => ?_⟩
      rw [World.cell?_setCell_other _ _ _ _ (fun e => hb (by injection e with e1; exact e1.symm)), World.cell?_setCell_other _ _ _ _ (fun e => hb (by injection e with e1; exact e1.symm))]
      exact hc i hi

theorem RowT.setAt {w : World} {b off : Nat} {ts : List It} (h : RowT w (some ⟨b, off, none⟩) ts) (j : Nat) (hj : j < ts.length) (t : It) (hK : inI t.K) (hV : inI t.V) :
    RowT ((w.setCell ⟨b, off + j * 2, none⟩ (.int .i64 t.K)).setCell ⟨b, off + j * 2 + 1, none⟩ (.int .i64 t.V)) (some ⟨b, off, none⟩) (ts.set j t) := by
  obtain ⟨h1, h2, h3⟩ := h
  refine ⟨by rw [List.length_set]; exact h1, fun u hu => ?_, ?_⟩
  · rcases List.mem_or_eq_of_mem_set hu with h | h
    · exact h2 u h
    · rw [h]; exact ⟨hK, hV⟩
  · rcases h3 with h3 | ⟨b', off', e, hlt, hc⟩
    · rw [h3] at hj; simp at hj
    · injection e with e
      injection e with e1 e2
      subst e1 e2
      refine .inr ⟨b, off, rfl, by simpa [World.setCell] using hlt, fun i hi => ?_⟩
      have hi' : i < ts.length := by simpa using hi
      have ne : ∀ x y : Nat, x ≠ y → (⟨b, x, none⟩ : Addr) ≠ ⟨b, y, none⟩ := fun x y h e => h (by injection e)
      by_cases hij : i = j
      · subst hij
        have c1 := (hc i hi').1
        have c2 := (hc i hi').2
        constructor
        · rw [World.cell?_setCell_other _ _ _ _ (ne _ _ (by omega)), World.cell?_setCell_same _ _ _ c1]
          simp
        · rw [World.cell?_setCell_same (u := .int .i64 ts[i].V) _ _ _ (by rw [World.cell?_setCell_other _ _ _ _ (ne _ _ (by omega))]; exact c2)]
          simp
      · constructor
        · rw [World.cell?_setCell_other _ _ _ _ (ne _ _ (by omega)), World.cell?_setCell_other _ _ _ _ (ne _ _ (by omega)), (hc i hi').1, List.getElem_set_ne (by omega)]
        · rw [World.cell?_setCell_other _ _ _ _ (ne _ _ (by omega)), World.cell?_setCell_other _ _ _ _ (ne _ _ (by omega)), (hc i hi').2, List.getElem_set_ne (by omega)]

theorem OwnT.empty (w : World) (base : Nat) (hb : base ≤ w.heap.size) : OwnT base (w.alloc (.cells #[] 79)) (.slice (some ⟨w.heap.size, 0, none⟩) 0 0) [] := by
  have h := World.ownsRow_lit (base := base) (e := 79) (size := 2) w #[] 0 hb (by unfold maxLen; omega) (by simp)
  unfold OwnT
  simpa [itCells] using h

theorem itCells_one (ts : List It) : ∀ u ∈ itCells ts, u.oneCell' = true := by
  intro u hu
  unfold itCells at hu
  obtain ⟨t, _, h⟩ := List.mem_flatMap.1 hu
  simp at h
  rcases h with rfl | rfl <;> rfl

theorem run_appRT (w : World) (ty : TypeId) (base : Nat) (v : Value) (zs : List It) (hown : OwnT base w v zs) (A : Option Addr) (ys : List It) (c : Nat) (hr : RowT w A ys) (hlen : zs.length ≤ 1000000) (hlen2 : ys.length ≤ 1000000) (hbase : base ≤ w.heap.size) :
    ∃ v' w', (Builtin.append_ #[80, 80] ty #[v, .slice A ys.length c]).run Try.prog w = .ok v' w' ∧ OwnT base w' v' (zs ++ ys) ∧ w.grownBy w' v.ownBlock := by
  obtain ⟨i, hi, hz0, hz1, hz2⟩ := info_parts infoItem
  cases A with
  | none =>
    have hy : ys = [] := by
      rcases hr.2.2 with h | ⟨b, off, h, _⟩
      · exact h
      · cases h
    subst hy
    refine ⟨v, w, run_app_none w base _ ty 79 i 2 Try.underlying80 hi v zs.length _ hown c, by rw [List.append_nil]; exact hown, World.grownBy.refl w _⟩
  | some ad =>
    have hcells : ∀ j u, (itCells ys)[j]? = some u → w.cell? (ad.add j) = some u := by
      intro j u hu
      rcases hr.2.2 with h | ⟨b, off, h, _, hc⟩
      · subst h; simp [itCells] at hu
      · injection h with h
        subst h
        rw [addr_at]
        have hl := itCells_len ys
        have hj : j < ys.length * 2 := by
          rcases Nat.lt_or_ge j (ys.length * 2) with h' | h'
          · exact h'
          · rw [List.getElem?_eq_none (by omega)] at hu; cases hu
        obtain ⟨k, hk⟩ : ∃ k, j = k * 2 ∨ j = k * 2 + 1 := ⟨j / 2, by omega⟩
        rcases hk with rfl | rfl
        · have := (itCells_get ys k (by omega)).1
          rw [this] at hu
          rw [← hu]
          exact (hc k (by omega)).1
        · have := (itCells_get ys k (by omega)).2
          rw [this] at hu
          rw [← hu, ← Nat.add_assoc]
          exact (hc k (by omega)).2
    obtain ⟨v', w', hrun, h2, h3, _, _⟩ := run_append_own_at (P := Try.prog) w base 80 ty 79 i (.agg #[.int .i64 0, .int .i64 0]) 2 16 Try.underlying80 hi hz0 hz1 hz2 rfl (by omega) v zs.length _ hown ad ys.length c (itCells ys) (itCells_len ys) hcells
      (itCells_one ys) (by unfold maxLen; omega) (by omega) hbase
    refine ⟨v', w', hrun, ?_, h3⟩
    unfold OwnT
    rw [List.length_append, itCells_append]
    exact h2

/-- At a plain region's list. -/
theorem wpList_appRT {ops : Array Oper} {rest : List Oper} {o : Oper} {a : Act} {Q : Exit → Act → World → Prop} (w : World) (hgd : o.guard = none) (s x : Operand)
    (ho : o.op = .call { callee := .builtin .append, args := #[s, x], argTypes := #[80, 80] })
    (base : Nat) (v : Value) (zs : List It) (hs : a.eval s = v) (hown : OwnT base w v zs) (A : Option Addr) (ys : List It) (c : Nat) (hx : a.eval x = .slice A ys.length c) (hr : RowT w A ys) (hlen : zs.length ≤ 1000000) (hlen2 : ys.length ≤ 1000000) (hbase : base ≤ w.heap.size)
    (h : ∀ v' w', OwnT base w' v' (zs ++ ys) → w.grownBy w' v.ownBlock → wpList Try.prog ops Q rest (a.put o.dst v') w') : wpList Try.prog ops Q (o :: rest) a w := by
  obtain ⟨v', w', hrun, h2, h3⟩ := run_appRT w o.type base v zs hown A ys c hr hlen hlen2 hbase
  refine wpList_plain hgd fun _ hK => ?_
  unfold Oper.wp execOp
  simp only [ho, resolve, invoke, builtin, Sem.run_bind, Sem.run_pure, Result.andThen_ok, List.map_toArray, List.map_cons, List.map_nil, hs, hx, hrun]
  exact hK _ _ (h v' w' h2 h3)

end Go.Proofs.Ytbghpkdkfbpmeaa

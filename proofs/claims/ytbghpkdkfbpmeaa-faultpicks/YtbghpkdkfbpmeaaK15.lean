/-
  Plain mathematics of the laws over loci: a step of one or two goes by a link; whom a locus hits.
-/
import Derived.Test.YtbghpkdkfbpmeaaK12
import Derived.Test.YtbghpkdkfbpmeaaK13
import Derived.Test.YtbghpkdkfbpmeaaK11
namespace Plait

theorem steps_fin : ∀ n : Fin 7, ∀ i : Fin 12, ∀ v : Fin 4, i.val < 6 + n.val → (linkI (6 + (n.val : Int)) i.val (((i.val : Int) + [1, 2, -1, -2].getD v.val 0) % (6 + (n.val : Int)))).2 = true := by decide +kernel

theorem steps_any (n i : Int) (v : Nat) (h1 : 6 ≤ n) (h2 : n ≤ 12) (i0 : 0 ≤ i) (i1 : i < n) (hv : v < 4) : (linkI n i ((i + [1, 2, -1, -2].getD v 0) % n)).2 = true := by
  have hf := steps_fin ⟨(n - 6).toNat, by omega⟩ ⟨i.toNat, by omega⟩ ⟨v, hv⟩ (by show i.toNat < 6 + (n - 6).toNat; omega)
  have e1 : 6 + (((n - 6).toNat : Nat) : Int) = n := by omega
  have e2 : ((i.toNat : Nat) : Int) = i := by omega
  simp only [e1, e2] at hf
  exact hf

theorem hits_law (c : Cf) (f : Fa) (i j m : Int) (h : linkI c.N i j = (m, true)) : hitsB c f i j = ((f.K == 1 && f.At == i) || (f.K == 2 && f.At == m)) := by
  unfold hitsB
  rw [h]
  by_cases k1 : f.K = 1
  · simp [k1]
  · by_cases k2 : f.K = 2
    · simp [k2]
      rw [Bool.eq_iff_iff]
      simp
      exact ⟨Eq.symm, Eq.symm⟩
    · simp [k1, k2]

theorem step_cell (v : Nat) (hv : v < 4) : ∃ s : Int, (#[.int .i64 1, .int .i64 2, .int .i64 (-1), .int .i64 (-2)] : Array Go.Value)[v]? = some (.int .i64 s) ∧ [1, 2, -1, -2].getD v 0 = s ∧ -2 ≤ s ∧ s ≤ 2 := by
  rcases (by omega : v = 0 ∨ v = 1 ∨ v = 2 ∨ v = 3) with rfl | rfl | rfl | rfl
  all_goals exact ⟨_, rfl, rfl, by decide, by decide⟩

end Plait
/-
  Rows of acts that a call made itself: one act more, at a drawn region; the acts of FaultPicks.
-/
namespace Go.Proofs.Ytbghpkdkfbpmeaa
open Go.RowKit Plait
set_option maxRecDepth 100000
set_option linter.unusedVariables false

theorem step_appA {ops : Array Oper} {o : Oper} {a : Act} {K : Act → World → Prop} {Q : Exit → Act → World → Prop} {E : Prop} (w : World) (hgd : o.guard = none) (s x : Operand)
    (ho : o.op = .call { callee := .builtin .append, args := #[s, x], argTypes := #[25, 25] })
    (base : Nat) (v : Value) (ts : List Ac) (hs : a.eval s = v) (hown : OwnA base w v ts) (H c : Nat) (t : Ac) (hx : a.eval x = .slice (some ⟨H, 0, none⟩) 1 c)
    (hH : w.heap[H]? = some (.cells #[.int .i64 t.H, .int .i64 t.N, .string ⟨t.T.toArray⟩] 37 (0, 0))) (hlen : ts.length ≤ 1000000) (hbase : base ≤ w.heap.size)
    (h : ∀ g cap w', OwnA base w' (.slice (some ⟨g, 0, none⟩) (ts.length + 1) cap) (ts ++ [t]) → w.grownBy w' v.ownBlock → (v.ownBlock = some g ∨ g = w.heap.size) → g < w'.heap.size →
      K (a.put o.dst (.slice (some ⟨g, 0, none⟩) (ts.length + 1) cap)) w') : if Region.wanted o (yielded ops a.tmps) = true then Oper.wp Try.prog o a w K Q else E := by
  obtain ⟨i, hi, hz0, hz1, hz2⟩ := info_parts infoAct
  refine step_append_lies w hgd s x _ ho base 37 i (.agg #[.int .i64 0, .int .i64 0, .string ⟨#[]⟩]) 3 32 Try.underlying25 hi hz0 hz1 hz2 rfl (by omega) v ts.length _ hs hown ⟨H, 0, none⟩ 1 c [.int .i64 t.H, .int .i64 t.N, .string ⟨t.T.toArray⟩] hx rfl
    (World.news_of_block hH) (by simp [Value.oneCell']) (by omega) (by unfold maxLen; omega) (by omega) hbase _ rfl ?_
  intro g cap w' h1 h2 h3 h4
  refine h g cap w' ?_ h2 h3 h4
  unfold OwnA
  rw [List.length_append, acCells_append]
  exact h1

end Go.Proofs.Ytbghpkdkfbpmeaa

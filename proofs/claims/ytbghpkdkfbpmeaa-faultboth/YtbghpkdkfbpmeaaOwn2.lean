/-
  Rows of items that a call made itself.
-/
import Derived.Test.YtbghpkdkfbpmeaaFr6
namespace Go.Proofs.Ytbghpkdkfbpmeaa
open Go.RowKit Plait
set_option maxRecDepth 100000
set_option linter.unusedVariables false

/-- The cells of items. -/
def itCells (ts : List It) : List Value := ts.flatMap fun t => [.int .i64 t.K, .int .i64 t.V]

theorem itCells_len : ∀ ts : List It, (itCells ts).length = ts.length * 2
  | [] => rfl
  | t :: r => by unfold itCells; rw [List.flatMap_cons, List.length_append, List.length_cons]; have := itCells_len r; unfold itCells at this; rw [this]; simp; omega

theorem itCells_get : ∀ (ts : List It) (i : Nat) (h : i < ts.length), (itCells ts)[i * 2]? = some (.int .i64 ts[i].K) ∧ (itCells ts)[i * 2 + 1]? = some (.int .i64 ts[i].V)
  | [], i, h => absurd h (by simp)
  | t :: r, 0, h => ⟨rfl, rfl⟩
  | t :: r, i + 1, h => by
    have ih := itCells_get r i (by simpa using h)
    have e : itCells (t :: r) = [.int .i64 t.K, .int .i64 t.V] ++ itCells r := by unfold itCells; rw [List.flatMap_cons]
    rw [e]
    constructor
    · rw [List.getElem?_append_right (by simp; omega), show (i + 1) * 2 - [Value.int .i64 t.K, Value.int .i64 t.V].length = i * 2 by simp; omega]
      exact ih.1
    · rw [List.getElem?_append_right (by simp; omega), show (i + 1) * 2 + 1 - [Value.int .i64 t.K, Value.int .i64 t.V].length = i * 2 + 1 by simp; omega]
      exact ih.2

theorem itCells_append (a b : List It) : itCells (a ++ b) = itCells a ++ itCells b := by simp [itCells]

/-- A row of items that the call made itself. -/
def OwnT (base : Nat) (w : World) (v : Value) (ts : List It) : Prop := w.ownsRow base 79 2 v ts.length (itCells ts)

theorem OwnT.nil (base : Nat) (w : World) : OwnT base w (.slice none 0 0) [] := World.ownsRow_nil w base _ 2

theorem OwnT.form {base : Nat} {w : World} {v : Value} {ts : List It} (h : OwnT base w v ts) : ∃ a cap, v = .slice a ts.length cap := by
  rcases h.2 with ⟨hv, h0⟩ | ⟨g, cap, cur, hv, _⟩
  · exact ⟨none, 0, by rw [hv, h0]⟩
  · exact ⟨_, _, hv⟩

theorem OwnT.lt {base : Nat} {w : World} {v : Value} {ts : List It} (h : OwnT base w v ts) : ∀ k, v.ownBlock = some k → base ≤ k ∧ k < w.heap.size := World.ownsRow.lt h
theorem OwnT.later {base : Nat} {w w' : World} {v : Value} {ts : List It} (h : OwnT base w v ts) (hb : Below w.heap.size w w') : OwnT base w' v ts := by
  refine World.ownsRow.kept (row := none) h ⟨hb.os, hb.tape, hb.output, hb.size, fun k hk _ => hb.block k hk⟩ ?_
  cases hv : v.ownBlock
  · exact .inl rfl
  · exact .inr (by simp)
theorem OwnT.far {base : Nat} {w : World} {v : Value} {ts : List It} (h : OwnT base w v ts) (p : Addr) (u : Value) (hp : p.block < base) : OwnT base (w.setCell p u) v ts := by
  refine World.ownsRow.kept (row := some p.block) h ⟨rfl, rfl, rfl, by simp [World.setCell], fun k hk hne => Below.heap_setCell w p u k (fun e => hne (by rw [e]))⟩ ?_
  cases hv : v.ownBlock with
  | none => exact .inl rfl
  | some g =>
    refine .inr (fun e => ?_)
    have := (h.lt g hv).1
    injection e with e
    omega

theorem OwnT.row {base : Nat} {w : World} {a : Option Addr} {n cap : Nat} {ts : List It} (h : OwnT base w (.slice a n cap) ts) (hl : ts.length ≤ 9223372036854775807) (hz : ∀ t ∈ ts, inI t.K ∧ inI t.V) : RowT w a ts := by
  refine ⟨hl, hz, ?_⟩
  rcases Nat.eq_zero_or_pos ts.length with h0 | h0
  · exact .inl (List.eq_nil_of_length_eq_zero h0)
  · rcases h.2 with ⟨_, h1⟩ | ⟨g, cap', cur, hv, hg, hb, hcap, hmax, hsz, ht⟩
    · omega
    · have hA : a = some ⟨g, 0, none⟩ := by injection hv
      subst hA
      refine .inr ⟨g, 0, rfl, (Array.getElem?_eq_some_iff.1 hb).1, fun i hi => ?_⟩
      have hc := fun j u (hj : (itCells ts)[j]? = some u) => World.ownsRow.cells h (g := g) rfl j u hj
      have hi2 := itCells_get ts i hi
      have c1 := hc _ _ hi2.1
      have c2 := hc _ _ hi2.2
      rw [addr_at] at c1 c2
      exact ⟨c1, c2⟩

theorem infoItem : (Try.prog.info? 79).map (fun i => (i.zero, i.size, i.bytes)) = some (some (.agg #[.int .i64 0, .int .i64 0]), 2, 16) := by kernel_rfl

/-- One item behind a row that the call made itself, at a step of a region that draws its order. -/
theorem step_appT {ops : Array Oper} {o : Oper} {a : Act} {K : Act → World → Prop} {Q : Exit → Act → World → Prop} {E : Prop} (w : World) (hgd : o.guard = none) (s x : Operand)
    (ho : o.op = .call { callee := .builtin .append, args := #[s, x], argTypes := #[80, 80] })
    (base : Nat) (v : Value) (ts : List It) (hs : a.eval s = v) (hown : OwnT base w v ts) (H c : Nat) (t : It) (hx : a.eval x = .slice (some ⟨H, 0, none⟩) 1 c)
    (hH : w.heap[H]? = some (.cells #[.int .i64 t.K, .int .i64 t.V] 79 (0, 0))) (hlen : ts.length ≤ 1000000) (hbase : base ≤ w.heap.size)
    (h : ∀ g cap w', OwnT base w' (.slice (some ⟨g, 0, none⟩) (ts.length + 1) cap) (ts ++ [t]) → w.grownBy w' v.ownBlock → (v.ownBlock = some g ∨ g = w.heap.size) → g < w'.heap.size →
      K (a.put o.dst (.slice (some ⟨g, 0, none⟩) (ts.length + 1) cap)) w') : if Region.wanted o (yielded ops a.tmps) = true then Oper.wp Try.prog o a w K Q else E := by
  obtain ⟨i, hi, hz0, hz1, hz2⟩ := info_parts infoItem
  refine step_append_lies w hgd s x _ ho base 79 i (.agg #[.int .i64 0, .int .i64 0]) 2 16 Try.underlying80 hi hz0 hz1 hz2 rfl (by omega) v ts.length _ hs hown ⟨H, 0, none⟩ 1 c [.int .i64 t.K, .int .i64 t.V] hx rfl
    (World.news_of_block hH) (by simp [Value.oneCell']) (by omega) (by unfold maxLen; omega) (by omega) hbase _ rfl ?_
  intro g cap w' h1 h2 h3 h4
  refine h g cap w' ?_ h2 h3 h4
  unfold OwnT
  rw [List.length_append, itCells_append]
  exact h1

/-- The same, at a plain region's list. -/
theorem wpList_appT {ops : Array Oper} {rest : List Oper} {o : Oper} {a : Act} {Q : Exit → Act → World → Prop} (w : World) (hgd : o.guard = none) (s x : Operand)
    (ho : o.op = .call { callee := .builtin .append, args := #[s, x], argTypes := #[80, 80] })
    (base : Nat) (v : Value) (ts : List It) (hs : a.eval s = v) (hown : OwnT base w v ts) (H c : Nat) (t : It) (hx : a.eval x = .slice (some ⟨H, 0, none⟩) 1 c)
    (hH : w.heap[H]? = some (.cells #[.int .i64 t.K, .int .i64 t.V] 79 (0, 0))) (hlen : ts.length ≤ 1000000) (hbase : base ≤ w.heap.size)
    (h : ∀ g cap w', OwnT base w' (.slice (some ⟨g, 0, none⟩) (ts.length + 1) cap) (ts ++ [t]) → w.grownBy w' v.ownBlock → (v.ownBlock = some g ∨ g = w.heap.size) → g < w'.heap.size →
      wpList Try.prog ops Q rest (a.put o.dst (.slice (some ⟨g, 0, none⟩) (ts.length + 1) cap)) w') : wpList Try.prog ops Q (o :: rest) a w := by
  obtain ⟨i, hi, hz0, hz1, hz2⟩ := info_parts infoItem
  refine wpList_append_lies w hgd s x _ ho base 79 i (.agg #[.int .i64 0, .int .i64 0]) 2 16 Try.underlying80 hi hz0 hz1 hz2 rfl (by omega) v ts.length _ hs hown ⟨H, 0, none⟩ 1 c [.int .i64 t.K, .int .i64 t.V] hx rfl
    (World.news_of_block hH) (by simp [Value.oneCell']) (by omega) (by unfold maxLen; omega) (by omega) hbase _ rfl ?_
  intro g cap w' h1 h2 h3 h4
  refine h g cap w' ?_ h2 h3 h4
  unfold OwnT
  rw [List.length_append, itCells_append]
  exact h1

end Go.Proofs.Ytbghpkdkfbpmeaa

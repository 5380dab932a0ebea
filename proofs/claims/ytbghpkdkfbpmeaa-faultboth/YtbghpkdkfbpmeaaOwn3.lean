/-
  Rows of acts that a call made itself.
-/
import Derived.Test.YtbghpkdkfbpmeaaFa2
namespace Go.Proofs.Ytbghpkdkfbpmeaa
open Go.RowKit Plait
set_option maxRecDepth 100000
set_option linter.unusedVariables false

/-- The cells of acts. -/
def acCells (ts : List Ac) : List Value := ts.flatMap fun t => [.int .i64 t.H, .int .i64 t.N, .string ⟨t.T.toArray⟩]

theorem acCells_cons (t : Ac) (r : List Ac) : acCells (t :: r) = [.int .i64 t.H, .int .i64 t.N, .string ⟨t.T.toArray⟩] ++ acCells r := by unfold acCells; rw [List.flatMap_cons]
theorem acCells_len : ∀ ts : List Ac, (acCells ts).length = ts.length * 3
  | [] => rfl
  | t :: r => by rw [acCells_cons, List.length_append, List.length_cons, acCells_len r]; simp; omega

theorem acCells_get : ∀ (ts : List Ac) (i : Nat) (h : i < ts.length), (acCells ts)[i * 3]? = some (.int .i64 ts[i].H) ∧ (acCells ts)[i * 3 + 1]? = some (.int .i64 ts[i].N) ∧ (acCells ts)[i * 3 + 2]? = some (.string ⟨ts[i].T.toArray⟩)
  | [], i, h => absurd h (by simp)
  | t :: r, 0, h => ⟨rfl, rfl, rfl⟩
  | t :: r, i + 1, h => by
    have ih := acCells_get r i (by simpa using h)
    rw [acCells_cons]
    refine ⟨?_, ?_, ?_⟩
    · rw [List.getElem?_append_right (by simp; omega), show (i + 1) * 3 - [Value.int .i64 t.H, Value.int .i64 t.N, Value.string ⟨t.T.toArray⟩].length = i * 3 by simp; omega]
      exact ih.1
    · rw [List.getElem?_append_right (by simp; omega), show (i + 1) * 3 + 1 - [Value.int .i64 t.H, Value.int .i64 t.N, Value.string ⟨t.T.toArray⟩].length = i * 3 + 1 by simp; omega]
      exact ih.2.1
    · rw [List.getElem?_append_right (by simp; omega), show (i + 1) * 3 + 2 - [Value.int .i64 t.H, Value.int .i64 t.N, Value.string ⟨t.T.toArray⟩].length = i * 3 + 2 by simp; omega]
      exact ih.2.2

theorem acCells_append (a b : List Ac) : acCells (a ++ b) = acCells a ++ acCells b := by simp [acCells]

/-- A row of acts that the call made itself. -/
def OwnA (base : Nat) (w : World) (v : Value) (ts : List Ac) : Prop := w.ownsRow base 37 3 v ts.length (acCells ts)

theorem OwnA.nil (base : Nat) (w : World) : OwnA base w (.slice none 0 0) [] := World.ownsRow_nil w base _ 3

theorem OwnA.form {base : Nat} {w : World} {v : Value} {ts : List Ac} (h : OwnA base w v ts) : ∃ a cap, v = .slice a ts.length cap := by
  rcases h.2 with ⟨hv, h0⟩ | ⟨g, cap, cur, hv, _⟩
  · exact ⟨none, 0, by rw [hv, h0]⟩
  · exact ⟨_, _, hv⟩

theorem OwnA.lt {base : Nat} {w : World} {v : Value} {ts : List Ac} (h : OwnA base w v ts) : ∀ k, v.ownBlock = some k → base ≤ k ∧ k < w.heap.size := World.ownsRow.lt h
theorem OwnA.later {base : Nat} {w w' : World} {v : Value} {ts : List Ac} (h : OwnA base w v ts) (hb : Below w.heap.size w w') : OwnA base w' v ts := by
  refine World.ownsRow.kept (row := none) h ⟨hb.os, hb.tape, hb.output, hb.size, fun k hk _ => hb.block k hk⟩ ?_
  cases hv : v.ownBlock
  · exact .inl rfl
  · exact .inr (by simp)
theorem OwnA.far {base : Nat} {w : World} {v : Value} {ts : List Ac} (h : OwnA base w v ts) (p : Addr) (u : Value) (hp : p.block < base) : OwnA base (w.setCell p u) v ts := by
  refine World.ownsRow.kept (row := some p.block) h ⟨rfl, rfl, rfl, by simp [World.setCell], fun k hk hne => Below.heap_setCell w p u k (fun e => hne (by rw [e]))⟩ ?_
  cases hv : v.ownBlock with
  | none => exact .inl rfl
  | some g =>
    refine .inr (fun e => ?_)
    have := (h.lt g hv).1
    injection e with e
    omega
/-- A store into a block that is not the row's. -/
theorem OwnA.apart {base : Nat} {w : World} {v : Value} {ts : List Ac} (h : OwnA base w v ts) (p : Addr) (u : Value) (hp : ∀ g, v.ownBlock = some g → g ≠ p.block) : OwnA base (w.setCell p u) v ts := by
  refine World.ownsRow.kept (row := some p.block) h ⟨rfl, rfl, rfl, by simp [World.setCell], fun k hk hne => Below.heap_setCell w p u k (fun e => hne (by rw [e]))⟩ ?_
  cases hv : v.ownBlock with
  | none => exact .inl rfl
  | some g => exact .inr (fun e => hp g hv (by injection e))

theorem OwnA.row {base : Nat} {w : World} {a : Option Addr} {n cap : Nat} {ts : List Ac} (h : OwnA base w (.slice a n cap) ts) (hl : ts.length ≤ 9223372036854775807) (hz : ∀ t ∈ ts, inI t.H ∧ inI t.N ∧ t.T.length ≤ 9223372036854775807) : RowA w a ts := by
  refine ⟨hl, hz, ?_⟩
  rcases Nat.eq_zero_or_pos ts.length with h0 | h0
  · exact .inl (List.eq_nil_of_length_eq_zero h0)
  · rcases h.2 with ⟨_, h1⟩ | ⟨g, cap', cur, hv, hg, hb, hcap, hmax, hsz, ht⟩
    · omega
    · have hA : a = some ⟨g, 0, none⟩ := by injection hv
      subst hA
      refine .inr ⟨g, 0, rfl, (Array.getElem?_eq_some_iff.1 hb).1, fun i hi => ?_⟩
      have hc := fun j u (hj : (acCells ts)[j]? = some u) => World.ownsRow.cells h (g := g) rfl j u hj
      have hi2 := acCells_get ts i hi
      have c1 := hc _ _ hi2.1
      have c2 := hc _ _ hi2.2.1
      have c3 := hc _ _ hi2.2.2
      rw [addr_at] at c1 c2 c3
      exact ⟨c1, c2, c3⟩

theorem infoAct : (Try.prog.info? 37).map (fun i => (i.zero, i.size, i.bytes)) = some (some (.agg #[.int .i64 0, .int .i64 0, .string ⟨#[]⟩]), 3, 32) := by kernel_rfl

/-- One act behind a row that the call made itself, at a plain region's list. -/
theorem wpList_appA {ops : Array Oper} {rest : List Oper} {o : Oper} {a : Act} {Q : Exit → Act → World → Prop} (w : World) (hgd : o.guard = none) (s x : Operand)
    (ho : o.op = .call { callee := .builtin .append, args := #[s, x], argTypes := #[25, 25] })
    (base : Nat) (v : Value) (ts : List Ac) (hs : a.eval s = v) (hown : OwnA base w v ts) (H c : Nat) (t : Ac) (hx : a.eval x = .slice (some ⟨H, 0, none⟩) 1 c)
    (hH : w.heap[H]? = some (.cells #[.int .i64 t.H, .int .i64 t.N, .string ⟨t.T.toArray⟩] 37 (0, 0))) (hlen : ts.length ≤ 1000000) (hbase : base ≤ w.heap.size)
    (h : ∀ g cap w', OwnA base w' (.slice (some ⟨g, 0, none⟩) (ts.length + 1) cap) (ts ++ [t]) → w.grownBy w' v.ownBlock → (v.ownBlock = some g ∨ g = w.heap.size) → g < w'.heap.size →
      wpList Try.prog ops Q rest (a.put o.dst (.slice (some ⟨g, 0, none⟩) (ts.length + 1) cap)) w') : wpList Try.prog ops Q (o :: rest) a w := by
  obtain ⟨i, hi, hz0, hz1, hz2⟩ := info_parts infoAct
  refine wpList_append_lies w hgd s x _ ho base 37 i (.agg #[.int .i64 0, .int .i64 0, .string ⟨#[]⟩]) 3 32 Try.underlying25 hi hz0 hz1 hz2 rfl (by omega) v ts.length _ hs hown ⟨H, 0, none⟩ 1 c [.int .i64 t.H, .int .i64 t.N, .string ⟨t.T.toArray⟩] hx rfl
    (World.news_of_block hH) (by simp [Value.oneCell']) (by omega) (by unfold maxLen; omega) (by omega) hbase _ rfl ?_
  intro g cap w' h1 h2 h3 h4
  refine h g cap w' ?_ h2 h3 h4
  unfold OwnA
  rw [List.length_append, acCells_append]
  exact h1

theorem RowA.grown {w w' : World} {a : Option Addr} {ts : List Ac} {row : Option Nat} (h : RowA w a ts) (hb : w.grownBy w' row) (hne : ts = [] ∨ ∀ x, a = some x → some x.block ≠ row) : RowA w' a ts := by
  obtain ⟨h1, h2, h3⟩ := h
  refine ⟨h1, h2, ?_⟩
  rcases h3 with h3 | ⟨b, off, rfl, hlt, hc⟩
  · exact .inl h3
  · rcases hne with hne | hne
    · exact .inl hne
    · have hk := hb.block b hlt (hne _ rfl)
      exact .inr ⟨b, off, rfl, Nat.lt_of_lt_of_le hlt hb.size, fun i hi => by rw [cell_agree hk, cell_agree hk, cell_agree hk]; exact hc i hi⟩

end Go.Proofs.Ytbghpkdkfbpmeaa

/-
  Frames as they lie in memory: rows of items, boxes of frames.
-/
import Derived.Test.YtfpbijcgbknklaaConf2
import Derived.Test.YtfpbijcgbknklaaFr1
import Derived.Test.YtfpbijcgbknklaaRef5
import Derived.Test.YtfpbijcgbknklaaDev2
namespace Go.Proofs.Ytfpbijcgbknklaa
open Go.RowKit Plait
set_option maxRecDepth 100000
set_option linter.unusedVariables false

/-- A slice of items as it lies in memory. -/
def RowT (w : World) (a : Option Addr) (ts : List It) : Prop :=
  ts.length ≤ 9223372036854775807 ∧ (∀ t ∈ ts, inI t.K ∧ inI t.V) ∧
  (ts = [] ∨ ∃ b off : Nat, a = some ⟨b, off, none⟩ ∧ b < w.heap.size ∧ ∀ i (h : i < ts.length), w.cell? ⟨b, off + i * 2, none⟩ = some (.int .i64 ts[i].K) ∧ w.cell? ⟨b, off + i * 2 + 1, none⟩ = some (.int .i64 ts[i].V))

theorem RowT.later {w w1 : World} {a : Option Addr} {ts : List It} (h : RowT w a ts) (hb : Below w.heap.size w w1) : RowT w1 a ts := by
  obtain ⟨h1, h2, h3⟩ := h
  refine ⟨h1, h2, ?_⟩
  rcases h3 with h3 | ⟨b, off, e, hlt, hc⟩
  · exact .inl h3
  · exact .inr ⟨b, off, e, Nat.lt_of_lt_of_le hlt hb.size, fun i hi => ⟨by rw [hb.cell (p := ⟨b, off + i * 2, none⟩) hlt]; exact (hc i hi).1, by rw [hb.cell (p := ⟨b, off + i * 2 + 1, none⟩) hlt]; exact (hc i hi).2⟩⟩
theorem RowT.empty (w : World) (a : Option Addr) : RowT w a [] := ⟨by simp, by simp, .inl rfl⟩
theorem RowT.drew1 {w : World} {a : Option Addr} {ts : List It} (h : RowT w a ts) : RowT w.drew a ts := h.later (Below.refl _ _).drew
theorem RowT.drewN {w : World} {a : Option Addr} {ts : List It} (h : RowT w a ts) (n : Nat) : RowT (w.drewN n) a ts := h.later (below_drewN (Below.refl _ _) n)
theorem RowT.alloc {w : World} {a : Option Addr} {ts : List It} (h : RowT w a ts) (o : Obj) : RowT (w.alloc o) a ts := h.later ((Below.refl _ _).alloc (Nat.le_refl _) _)
theorem RowT.get {w : World} {a : Option Addr} {ts : List It} (h : RowT w a ts) (k : Nat) (hk : k < ts.length) :
    ∃ b off : Nat, a = some ⟨b, off, none⟩ ∧ b < w.heap.size ∧ w.cell? ⟨b, off + k * 2, none⟩ = some (.int .i64 ts[k].K) ∧ w.cell? ⟨b, off + k * 2 + 1, none⟩ = some (.int .i64 ts[k].V) ∧ inI ts[k].K ∧ inI ts[k].V := by
  obtain ⟨_, h2, h3⟩ := h
  rcases h3 with h3 | ⟨b, off, e, hlt, hc⟩
  · rw [h3] at hk; simp at hk
  · exact ⟨b, off, e, hlt, (hc k hk).1, (hc k hk).2, (h2 _ (List.getElem_mem hk)).1, (h2 _ (List.getElem_mem hk)).2⟩

/-- The cells of a frame's box. -/
def frBox (f : Fr) (a : Option Addr) (cap : Nat) : Array Value := #[.int .i64 f.K, .int .i64 f.R, .int .i64 f.S, .int .i64 f.P.K, .int .i64 f.P.V, .slice a f.E.length cap]

theorem ret_str5 {a b : List UInt8} (h : a = b) : Ending.returned (.string ⟨a.toArray⟩) = .returned (.string ⟨b.toArray⟩) := by rw [h]

/-- A call in a quiet region, by a contract that leaves the world. -/
theorem quiet_same5 {P : Program} {f : FuncId} {args : Array Value} {w : World} {n : Nat} {v : Value} (h : Calls P f args (w.drewN n) fun e w' => e = .returned v ∧ w.drewN n = w') : Calls P f args (w.drewN n) fun e w'' => e = .returned v ∧ ∃ m, w'' = w.drewN m :=
  h.mono fun _ _ ⟨he, hm⟩ => ⟨he, n, hm.symm⟩

theorem bitsI_of (x : Int) (k : Nat) (h1 : 1 ≤ k) (h2 : k ≤ 62) : bitsI x (k : Int) = bitsL x k := by unfold bitsI; rw [if_pos (by omega)]; rfl

theorem bitsI_len (x s : Int) : (bitsI x s).length ≤ 62 := by
  unfold bitsI
  split
  · rw [bitsL_length]; omega
  · simp

end Go.Proofs.Ytfpbijcgbknklaa

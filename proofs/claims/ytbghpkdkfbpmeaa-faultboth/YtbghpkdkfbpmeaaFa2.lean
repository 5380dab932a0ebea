/-
  The one locus as it lies in memory: rows of acts, its box.
-/
import Derived.Test.YtbghpkdkfbpmeaaLaw54
import Derived.Test.YtbghpkdkfbpmeaaFa1
import Derived.Test.YtbghpkdkfbpmeaaDev8
import Derived.Test.YtbghpkdkfbpmeaaRef8
namespace Go.Proofs.Ytbghpkdkfbpmeaa
open Go.RowKit Plait
set_option maxRecDepth 100000
set_option linter.unusedVariables false

/-- A slice of acts as it lies in memory. -/
def RowA (w : World) (a : Option Addr) (ts : List Ac) : Prop :=
  ts.length ≤ 9223372036854775807 ∧ (∀ t ∈ ts, inI t.H ∧ inI t.N ∧ t.T.length ≤ 9223372036854775807) ∧
  (ts = [] ∨ ∃ b off : Nat, a = some ⟨b, off, none⟩ ∧ b < w.heap.size ∧ ∀ i (h : i < ts.length), w.cell? ⟨b, off + i * 3, none⟩ = some (.int .i64 ts[i].H) ∧ w.cell? ⟨b, off + i * 3 + 1, none⟩ = some (.int .i64 ts[i].N) ∧ w.cell? ⟨b, off + i * 3 + 2, none⟩ = some (.string ⟨ts[i].T.toArray⟩))

theorem RowA.later {w w1 : World} {a : Option Addr} {ts : List Ac} (h : RowA w a ts) (hb : Below w.heap.size w w1) : RowA w1 a ts := by
  obtain ⟨h1, h2, h3⟩ := h
  refine ⟨h1, h2, ?_⟩
  rcases h3 with h3 | ⟨b, off, e, hlt, hc⟩
  · exact .inl h3
  · exact .inr ⟨b, off, e, Nat.lt_of_lt_of_le hlt hb.size, fun i hi => ⟨by rw [hb.cell (p := ⟨b, off + i * 3, none⟩) hlt]; exact (hc i hi).1, by rw [hb.cell (p := ⟨b, off + i * 3 + 1, none⟩) hlt]; exact (hc i hi).2.1, by rw [hb.cell (p := ⟨b, off + i * 3 + 2, none⟩) hlt]; exact (hc i hi).2.2⟩⟩
theorem RowA.empty (w : World) (a : Option Addr) : RowA w a [] := ⟨by simp, by simp, .inl rfl⟩
theorem RowA.drew1 {w : World} {a : Option Addr} {ts : List Ac} (h : RowA w a ts) : RowA w.drew a ts := h.later (Below.refl _ _).drew
theorem RowA.drewN {w : World} {a : Option Addr} {ts : List Ac} (h : RowA w a ts) (n : Nat) : RowA (w.drewN n) a ts := h.later (below_drewN (Below.refl _ _) n)
theorem RowA.alloc {w : World} {a : Option Addr} {ts : List Ac} (h : RowA w a ts) (o : Obj) : RowA (w.alloc o) a ts := h.later ((Below.refl _ _).alloc (Nat.le_refl _) _)
theorem RowA.get {w : World} {a : Option Addr} {ts : List Ac} (h : RowA w a ts) (k : Nat) (hk : k < ts.length) :
    ∃ b off : Nat, a = some ⟨b, off, none⟩ ∧ b < w.heap.size ∧ w.cell? ⟨b, off + k * 3, none⟩ = some (.int .i64 ts[k].H) ∧ w.cell? ⟨b, off + k * 3 + 1, none⟩ = some (.int .i64 ts[k].N) ∧ w.cell? ⟨b, off + k * 3 + 2, none⟩ = some (.string ⟨ts[k].T.toArray⟩) ∧ inI ts[k].H ∧ inI ts[k].N ∧ ts[k].T.length ≤ 9223372036854775807 := by
  obtain ⟨_, h2, h3⟩ := h
  rcases h3 with h3 | ⟨b, off, e, hlt, hc⟩
  · rw [h3] at hk; simp at hk
  · exact ⟨b, off, e, hlt, (hc k hk).1, (hc k hk).2.1, (hc k hk).2.2, h2 _ (List.getElem_mem hk)⟩
theorem RowA.far2 {w : World} {a : Option Addr} {ts : List Ac} (h : RowA w a ts) (g i : Nat) (u : Value) (hne : ts = [] ∨ ∀ x, a = some x → x.block ≠ g) : RowA (w.setCell ⟨g, i, none⟩ u) a ts := by
  obtain ⟨h1, h2, h3⟩ := h
  refine ⟨h1, h2, ?_⟩
  rcases h3 with h3 | ⟨b, off, rfl, hlt, hc⟩
  · exact .inl h3
  · rcases hne with hne | hne
    · exact .inl hne
    · have hb : b ≠ g := hne _ rfl
      refine .inr ⟨b, off, rfl, by simpa [World.setCell] using hlt, fun i hi => ?_⟩
      have ne : ∀ x y : Nat, (⟨g, x, none⟩ : Addr) ≠ ⟨b, y, none⟩ := fun x y e => hb (by injection e with e1; exact e1.symm)
      rw [World.cell?_setCell_other _ _ _ _ (ne _ _), World.cell?_setCell_other _ _ _ _ (ne _ _), World.cell?_setCell_other _ _ _ _ (ne _ _)]
      exact hc i hi
/-- A row may be told of by the block in which it lies. -/
theorem RowA.lt {w : World} {a : Option Addr} {ts : List Ac} (h : RowA w a ts) : ts = [] ∨ ∀ x, a = some x → x.block < w.heap.size := by
  rcases h.2.2 with h3 | ⟨b, off, rfl, hlt, _⟩
  · exact .inl h3
  · exact .inr fun x hx => by injection hx with hx; subst hx; exact hlt
theorem Row.lt {w : World} {a : Option Addr} {ts : List Int} (h : Row w a ts) : ts = [] ∨ ∀ x, a = some x → x.block < w.heap.size := by
  rcases h.2.2 with h3 | ⟨b, off, rfl, hlt, _⟩
  · exact .inl h3
  · exact .inr fun x hx => by injection hx with hx; subst hx; exact hlt

/-- The cells of a locus' box, and of an act's. -/
def faBox (f : Fa) (a : Option Addr) (ac : Nat) (d : Option Addr) (dc : Nat) : Array Value := #[.int .i64 f.K, .int .i64 f.At, .int .i64 f.F, .int .i64 f.To, .slice a f.A.length ac, .slice d f.D.length dc]
def acBox (t : Ac) : Array Value := #[.int .i64 t.H, .int .i64 t.N, .string ⟨t.T.toArray⟩]
/-- What a locus' two rows are. -/
def RowsL (w : World) (f : Fa) (a d : Option Addr) : Prop := RowA w a f.A ∧ Row w d f.D
theorem RowsL.later {w w1 : World} {f : Fa} {a d : Option Addr} (h : RowsL w f a d) (hb : Below w.heap.size w w1) : RowsL w1 f a d := ⟨h.1.later hb, h.2.later hb⟩
theorem RowsL.drew1 {w : World} {f : Fa} {a d : Option Addr} (h : RowsL w f a d) : RowsL w.drew f a d := ⟨h.1.drew1, h.2.drew1⟩
theorem RowsL.alloc {w : World} {f : Fa} {a d : Option Addr} (h : RowsL w f a d) (o : Obj) : RowsL (w.alloc o) f a d := ⟨h.1.alloc o, h.2.alloc o⟩
/-- Its numbers are such as a machine holds. -/
def Fa.In (f : Fa) : Prop := inI f.K ∧ inI f.At ∧ inI f.F ∧ inI f.To

end Go.Proofs.Ytbghpkdkfbpmeaa

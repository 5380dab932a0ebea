/-
  Facts of slots: what operations of a region yield, and where it lies.
-/
import Derived.Test.YtfpbijcgbknklaaSlots2
import Derived.Test.YtfpbijcgbknklaaFr2
import Derived.Test.YtfpbijcgbknklaaConf2
namespace Go.Proofs.Ytfpbijcgbknklaa
open Go.RowKit Plait
set_option maxRecDepth 100000
set_option linter.unusedVariables false

theorem cell_agree {W W' : World} {b : Nat} (h : W'.heap[b]? = W.heap[b]?) (o : Nat) : W'.cell? ⟨b, o, none⟩ = W.cell? ⟨b, o, none⟩ := by simp [World.cell?, h]

/-- Where a row lies. -/
def Ft (B : Nat) (Z : Foot) (a : Option Addr) : Prop := ∀ x, a = some x → x.block < B ∨ Z x.block
theorem Ft.mono {B : Nat} {Z Z' : Foot} {a : Option Addr} (h : Ft B Z a) (hz : ∀ m, Z m → Z' m) : Ft B Z' a := fun x hx => (h x hx).imp id (hz _)
theorem ft_mono {B : Nat} {Z Z' : Foot} {a : Option Addr} {p : Prop} (h : p ∨ Ft B Z a) (hz : ∀ m, Z m → Z' m) : p ∨ Ft B Z' a := h.imp id fun h => h.mono hz
theorem foot_dep {T : List (Option Nat)} {o : Oper} {Zs : Nat → Foot} {W W' : World} (i : Nat) (h1 : dep o i = true) (h2 : isBox T i = false) (h3 : isSt T i = false) : ∀ m, Zs i m → footN T o Zs W W' m := fun m hm => .inr ⟨i, h1, h2, h3, hm⟩
theorem foot_depS {T : List (Option Nat)} {o : Oper} {Zs : Nat → Foot} {b : Nat} (i : Nat) (h1 : dep o i = true) (h2 : isBox T i = false) (h3 : isSt T i = false) : ∀ m, Zs i m → (m = b ∨ footD T o Zs m) := fun m hm => .inr ⟨i, h1, h2, h3, hm⟩

theorem Row.agree {B : Nat} {Z : Foot} {W W' : World} {a : Option Addr} {zs : List Int} (h : Row W a zs) (hf : zs = [] ∨ Ft B Z a) (hA : Agree B Z W W') : Row W' a zs := by
  obtain ⟨h1, h2, h3⟩ := h
  refine ⟨h1, h2, ?_⟩
  rcases hf with hf | hf
  · exact .inl hf
  · rcases h3 with h3 | ⟨b, off, rfl, hlt, hc⟩
    · exact .inl h3
    · exact .inr ⟨b, off, rfl, Nat.lt_of_lt_of_le hlt hA.1, fun i hi => by rw [cell_agree (hA.2 b hlt (hf _ rfl))]; exact hc i hi⟩
theorem Row.foot {B : Nat} {T : List (Option Nat)} {o : Oper} {Zs : Nat → Foot} {W W' : World} {a : Option Addr} {zs : List Int} (h : Row W' a zs) (hf : ∀ x, a = some x → W.heap.size ≤ x.block) : zs = [] ∨ Ft B (footN T o Zs W W') a := by
  rcases h.2.2 with h3 | ⟨b, off, rfl, hlt, hc⟩
  · exact .inl h3
  · refine .inr fun x hx => .inr (.inl ⟨hf x hx, ?_⟩)
    injection hx with hx
    subst hx
    exact hlt
theorem RowT.agree {B : Nat} {Z : Foot} {W W' : World} {a : Option Addr} {ts : List It} (h : RowT W a ts) (hf : ts = [] ∨ Ft B Z a) (hA : Agree B Z W W') : RowT W' a ts := by
  obtain ⟨h1, h2, h3⟩ := h
  refine ⟨h1, h2, ?_⟩
  rcases hf with hf | hf
  · exact .inl hf
  · rcases h3 with h3 | ⟨b, off, rfl, hlt, hc⟩
    · exact .inl h3
    · exact .inr ⟨b, off, rfl, Nat.lt_of_lt_of_le hlt hA.1, fun i hi => by rw [cell_agree (hA.2 b hlt (hf _ rfl)), cell_agree (hA.2 b hlt (hf _ rfl))]; exact hc i hi⟩
theorem RowT.foot {B : Nat} {T : List (Option Nat)} {o : Oper} {Zs : Nat → Foot} {W W' : World} {a : Option Addr} {ts : List It} (h : RowT W' a ts) (hf : ∀ x, a = some x → W.heap.size ≤ x.block) : ts = [] ∨ Ft B (footN T o Zs W W') a := by
  rcases h.2.2 with h3 | ⟨b, off, rfl, hlt, hc⟩
  · exact .inl h3
  · refine .inr fun x hx => .inr (.inl ⟨hf x hx, ?_⟩)
    injection hx with hx
    subst hx
    exact hlt
theorem Blk.agree {B : Nat} {Z : Foot} {W W' : World} {b : Nat} {t : TypeId} {cs : Array Value} (h : Blk W b t cs) (hf : b < B ∨ Z b) (hA : Agree B Z W W') : Blk W' b t cs := (hA.2 b h.lt hf).trans h
theorem Only.agree {B b : Nat} {Z : Foot} {W W' : World} (h : Only b W W') (hB : B ≤ b) (hz : ∀ m, Z m → m ≠ b) : Agree B Z W W' := ⟨by rw [h.size]; exact Nat.le_refl _, fun n hn hm => h.rest n (by
  rcases hm with hm | hm
  · omega
  · exact hz n hm)⟩

section
variable {P : Program} {w0 : World} {D T : List (Option Nat)} {n : Nat} {a0 : Act} {Q : Exit → Act → World → Prop} {R : List Fact → Prop} {o : Oper} {rest : List Oper} {j : Nat} {fs : List Fact}
theorem step_of (f : Fact) (hg : Good w0.heap.size f) (h : Ob P w0 D T n a0 Q j o fs f) (hn : Steps P w0 D T n a0 Q R rest (j + 1) (fs ++ [f])) : Steps P w0 D T n a0 Q R (o :: rest) j fs := ⟨f, hg, h, hn⟩
/-- An operation that yields one value. -/
theorem step_fix {c : Value} (h : Ob P w0 D T n a0 Q j o fs fun v _ _ => v = c) (hn : Steps P w0 D T n a0 Q R rest (j + 1) (fs ++ [fun v _ _ => v = c])) : Steps P w0 D T n a0 Q R (o :: rest) j fs :=
  ⟨_, fun _ _ _ _ h _ => h, h, hn⟩
/-- One of whose value nothing is asked. -/
theorem step_triv (h : Ob P w0 D T n a0 Q j o fs anyFact) (hn : Steps P w0 D T n a0 Q R rest (j + 1) (fs ++ [anyFact])) : Steps P w0 D T n a0 Q R (o :: rest) j fs := ⟨_, fun _ _ _ _ _ _ => trivial, h, hn⟩

def rowF (B : Nat) (zs : List Int) : Fact := fun v Z W => ∃ a cap, v = .slice a zs.length cap ∧ Row W a zs ∧ (zs = [] ∨ Ft B Z a)
theorem rowF_good (B : Nat) (zs : List Int) : Good B (rowF B zs) := fun v Z W W' ⟨a, cap, e, hr, hf⟩ hA => ⟨a, cap, e, hr.agree hf hA, hf⟩
def rowTF (B : Nat) (ts : List It) : Fact := fun v Z W => ∃ a cap, v = .slice a ts.length cap ∧ RowT W a ts ∧ (ts = [] ∨ Ft B Z a)
theorem rowTF_good (B : Nat) (ts : List It) : Good B (rowTF B ts) := fun v Z W W' ⟨a, cap, e, hr, hf⟩ hA => ⟨a, cap, e, hr.agree hf hA, hf⟩
/-- The same, and that the row is new. -/
def rowTNF (B : Nat) (ts : List It) : Fact := fun v Z W => ∃ a cap, v = .slice a ts.length cap ∧ RowT W a ts ∧ (ts = [] ∨ Ft B Z a) ∧ (∀ x, a = some x → B ≤ x.block)
theorem rowTNF_good (B : Nat) (ts : List It) : Good B (rowTNF B ts) := fun v Z W W' ⟨a, cap, e, hr, hf, hn⟩ hA => ⟨a, cap, e, hr.agree hf hA, hf, hn⟩
/-- A network, a frame as values; what Read answers. -/
def cfF (B : Nat) (c : Cf) : Fact := fun v Z W => ∃ a cap, v = .agg #[.int .i64 c.N, .int .i64 c.Pi, .int .i64 c.E, .int .i64 c.G, .int .i64 c.F, .slice a c.P.length cap] ∧ Row W a c.P ∧ (c.P = [] ∨ Ft B Z a)
theorem cfF_good (B : Nat) (c : Cf) : Good B (cfF B c) := fun v Z W W' ⟨a, cap, e, hr, hf⟩ hA => ⟨a, cap, e, hr.agree hf hA, hf⟩
def frF (B : Nat) (g : Fr) : Fact := fun v Z W => ∃ a cap, v = .agg #[.int .i64 g.K, .int .i64 g.R, .int .i64 g.S, .int .i64 g.P.K, .int .i64 g.P.V, .slice a g.E.length cap] ∧ RowT W a g.E ∧ (g.E = [] ∨ Ft B Z a)
theorem frF_good (B : Nat) (g : Fr) : Good B (frF B g) := fun v Z W W' ⟨a, cap, e, hr, hf⟩ hA => ⟨a, cap, e, hr.agree hf hA, hf⟩
def rdF (B : Nat) (g : Fr) (er : Int) : Fact := fun v Z W => ∃ a cap, v = .tuple #[.agg #[.int .i64 g.K, .int .i64 g.R, .int .i64 g.S, .int .i64 g.P.K, .int .i64 g.P.V, .slice a g.E.length cap], .int .i64 er] ∧ RowT W a g.E ∧ (g.E = [] ∨ Ft B Z a)
theorem rdF_good (B : Nat) (g : Fr) (er : Int) : Good B (rdF B g er) := fun v Z W W' ⟨a, cap, e, hr, hf⟩ hA => ⟨a, cap, e, hr.agree hf hA, hf⟩
/-- A block that the region made, as a slice; the address of one of its cells; a box. -/
def blkF (B : Nat) (m : Nat) (t : TypeId) (cs : Array Value) : Fact := fun v Z W => ∃ b, v = .slice (some ⟨b, 0, none⟩) m m ∧ Blk W b t cs ∧ (b < B ∨ Z b)
theorem blkF_good (B m : Nat) (t : TypeId) (cs : Array Value) : Good B (blkF B m t cs) := fun v Z W W' ⟨b, e, hr, hf⟩ hA => ⟨b, e, hr.agree hf hA, hf⟩
theorem step_blk {m : Nat} {t : TypeId} {cs : Array Value} (h : Ob P w0 D T n a0 Q j o fs (blkF w0.heap.size m t cs)) (hn : Steps P w0 D T n a0 Q R rest (j + 1) (fs ++ [blkF w0.heap.size m t cs])) : Steps P w0 D T n a0 Q R (o :: rest) j fs := ⟨_, blkF_good _ _ _ _, h, hn⟩
def ptrF (B : Nat) (k : Nat) (t : TypeId) (cs : Array Value) : Fact := fun v Z W => ∃ b, v = .pointer (some ⟨b, k, none⟩) ∧ Blk W b t cs ∧ (b < B ∨ Z b)
theorem ptrF_good (B k : Nat) (t : TypeId) (cs : Array Value) : Good B (ptrF B k t cs) := fun v Z W W' ⟨b, e, hr, hf⟩ hA => ⟨b, e, hr.agree hf hA, hf⟩
theorem step_ptr {k : Nat} {t : TypeId} {cs : Array Value} (h : Ob P w0 D T n a0 Q j o fs (ptrF w0.heap.size k t cs)) (hn : Steps P w0 D T n a0 Q R rest (j + 1) (fs ++ [ptrF w0.heap.size k t cs])) : Steps P w0 D T n a0 Q R (o :: rest) j fs := ⟨_, ptrF_good _ _ _ _, h, hn⟩
def boxF (B : Nat) (t : TypeId) (m : Nat) : Fact := fun v Z W => ∃ b cs, v = .pointer (some ⟨b, 0, none⟩) ∧ Array.size cs = m ∧ Blk W b t cs ∧ Z b
theorem boxF_good (B : Nat) (t : TypeId) (m : Nat) : Good B (boxF B t m) := fun v Z W W' ⟨b, cs, e, hm, hr, hf⟩ hA => ⟨b, cs, e, hm, hr.agree (.inr hf) hA, hf⟩
/-- A box that was filled. -/
def litF (B : Nat) (t : TypeId) (cs : Array Value) : Fact := fun v Z W => ∃ b, v = .pointer (some ⟨b, 0, none⟩) ∧ Blk W b t cs ∧ (b < B ∨ Z b)
theorem litF_good (B : Nat) (t : TypeId) (cs : Array Value) : Good B (litF B t cs) := fun v Z W W' ⟨b, e, hr, hf⟩ hA => ⟨b, e, hr.agree hf hA, hf⟩
theorem step_lit {t : TypeId} {cs : Array Value} (h : Ob P w0 D T n a0 Q j o fs (litF w0.heap.size t cs)) (hn : Steps P w0 D T n a0 Q R rest (j + 1) (fs ++ [litF w0.heap.size t cs])) : Steps P w0 D T n a0 Q R (o :: rest) j fs := ⟨_, litF_good _ _ _, h, hn⟩

/-- A network's box. -/
def cfBoxF (B : Nat) (c : Cf) : Fact := fun v Z W => ∃ b a cap, v = .pointer (some ⟨b, 0, none⟩) ∧ Blk W b 24 (confBox c a cap) ∧ Row W a c.P ∧ (b < B ∨ Z b) ∧ (c.P = [] ∨ Ft B Z a)
theorem cfBoxF_good (B : Nat) (c : Cf) : Good B (cfBoxF B c) := fun v Z W W' ⟨b, a, cap, e, hk, hr, hf, hf2⟩ hA => ⟨b, a, cap, e, hk.agree hf hA, hr.agree hf2 hA, hf, hf2⟩

theorem wanted_at {i : Nat} {b : Bool} {d : Tmp} {a : Act} (h : o.guard = some (i, b)) (hd : dstOf D i = some d) (hv : a.eval (.tmp d) = .bool b) : Region.wanted o (yieldsOf D a) = true := by simp [Region.wanted, h, yieldsOf, hd, hv]
theorem wanted_not {i : Nat} {b : Bool} {d : Tmp} {a : Act} (h : o.guard = some (i, b)) (hd : dstOf D i = some d) (hv : a.eval (.tmp d) = .bool (!b)) : Region.wanted o (yieldsOf D a) = false := by simp [Region.wanted, h, yieldsOf, hd, hv]
theorem wanted_none (h : o.guard = none) (y : Nat → Option Bool) : Region.wanted o y = true := by simp [Region.wanted, h]
end

theorem arr6 {cs : Array Value} (h : cs.size = 6) : ∃ u0 u1 u2 u3 u4 u5, cs = #[u0, u1, u2, u3, u4, u5] :=
  ⟨cs[0], cs[1], cs[2], cs[3], cs[4], cs[5], by
    apply Array.ext
    · simp [h]
    · intro i h1 h2
      rcases (by omega : i = 0 ∨ i = 1 ∨ i = 2 ∨ i = 3 ∨ i = 4 ∨ i = 5) with rfl | rfl | rfl | rfl | rfl | rfl <;> rfl⟩
/-- A box of six cells, filled. -/
theorem Blk.fill6 {w : World} {g : Nat} {t : TypeId} {x0 x1 x2 x3 x4 x5 : Value} (h : Blk w g t #[x0, x1, x2, x3, x4, x5]) (u0 u1 u2 u3 u4 u5 : Value) :
    Blk ((((((w.setCell ⟨g, 0, none⟩ u0).setCell ⟨g, 1, none⟩ u1).setCell ⟨g, 2, none⟩ u2).setCell ⟨g, 3, none⟩ u3).setCell ⟨g, 4, none⟩ u4).setCell ⟨g, 5, none⟩ u5) g t #[u0, u1, u2, u3, u4, u5] :=
  ((((((h.set 0 u0).set 1 u1).set 2 u2).set 3 u3).set 4 u4).set 5 u5)
theorem Only.fill6 (w : World) (g : Nat) (u0 u1 u2 u3 u4 u5 : Value) : Only g w ((((((w.setCell ⟨g, 0, none⟩ u0).setCell ⟨g, 1, none⟩ u1).setCell ⟨g, 2, none⟩ u2).setCell ⟨g, 3, none⟩ u3).setCell ⟨g, 4, none⟩ u4).setCell ⟨g, 5, none⟩ u5) :=
  ((((((Only.refl g w).set 0 u0).set 1 u1).set 2 u2).set 3 u3).set 4 u4).set 5 u5

/-- A frame of so many slots, written out. -/
theorem frame_lit (t : Array Value) (n : Nat) (h : t.size = n) (x : Nat → Value) (hx : ∀ i, t.getD i undef = x i) : t = ((List.range n).map x).toArray := by
  apply Array.ext
  · simp [h]
  · intro i h1 h2
    simp only [List.getElem_toArray, List.getElem_map, List.getElem_range]
    rw [← hx i]
    simp [h1]

/-- What a store into a box keeps, and where the box lies. -/
theorem store_apart {B : Nat} {o : Oper} {Zs : Nat → Foot} {W W' : World} {i b : Nat} (hO : Only b W W') (hB : B ≤ b) (hb : Zs i b) (hap : ∀ x m, dep o x = true → x ≠ i → Zs x m → ¬ Zs i m) (x : Nat) (hx : dep o x = true) (hne : x ≠ i) : Agree B (Zs x) W W' :=
  hO.agree hB fun m hm e => hap x m hx hne hm (e ▸ hb)

/-- A box that the region made is new. -/
theorem ptr_new {b b' lo hi : Nat} {v : Value} (e' : v = .pointer (some ⟨b', 0, none⟩)) (e : v = .pointer (some ⟨b, 0, none⟩)) (h : lo ≤ b' ∧ b' < hi) : lo ≤ b ∧ b < hi := by
  rw [e] at e'
  injection e' with e'
  injection e' with e'
  injection e' with e'
  subst e'
  exact h

end Go.Proofs.Ytfpbijcgbknklaa

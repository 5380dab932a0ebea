/-
  Facts of slots: what operations of a region yield, and where it lies.
-/
import Derived.Test.YtkflijbhlibadabDoorK7
import Derived.Test.YtkflijbhlibadabDoorK3
import Derived.Test.YtkflijbhlibadabDoorK1
import Derived.Test.YtkflijbhlibadabDoorK2
import Derived.Lib.SliceRun
import Derived.Test.YtkflijbhlibadabDoorK5
namespace Go.Proofs.YtkflijbhlibadabDoor
open Go.RowKit Plait
set_option maxRecDepth 100000
set_option linter.unusedVariables false

theorem cell_agree {W W' : World} {b : Nat} (h : W'.heap[b]? = W.heap[b]?) (o : Nat) : W'.cell? ⟨b, o, none⟩ = W.cell? ⟨b, o, none⟩ := by simp [World.cell?, h]

/-- Where a row lies. -/
def Ft (B : Nat) (Z : Foot) (a : Option Addr) : Prop := ∀ x, a = some x → x.block < B ∨ Z x.block
theorem Ft.mono {B : Nat} {Z Z' : Foot} {a : Option Addr} (h : Ft B Z a) (hz : ∀ m, Z m → Z' m) : Ft B Z' a := fun x hx => (h x hx).imp id (hz _)
theorem ft_mono {B : Nat} {Z Z' : Foot} {a : Option Addr} {p : Prop} (h : p ∨ Ft B Z a) (hz : ∀ m, Z m → Z' m) : p ∨ Ft B Z' a := h.imp id fun h => h.mono hz
theorem foot_dep {T : List (Option Nat)} {o : Oper} {Zs : Nat → Foot} {W W' : World} (i : Nat) (h1 : dep o i = true) (h2 : isBox T i = false) (h3 : isSt T i = false) : ∀ m, Zs i m → footN T o Zs W W' m := fun m hm => .inr ⟨i, h1, h2, h3, hm⟩
theorem foot_depS {T : List (Option Nat)} {o : Oper} {Zs : Nat → Foot} {b : Nat} (i : Nat) (h1 : dep o i = true) (h2 : isBox T i = false) (h3 : isSt T i = false) : ∀ m, Zs i m → (m = b ∨ footD T o Zs m) := fun m hm => .inr ⟨i, h1, h2, h3, hm⟩

theorem Row.agree {B : Nat} {Z : Foot} {W W' : World} {a : Option Addr} {zs : List Int} (h : Row W a zs) (hf : zs = [] ∨ Ft B Z a) (hA : Agree B Z W W') : Row W' a zs := by
  obtain ⟨h1, h2, h3⟩ := h
  refine ⟨h1, h2, ?_⟩
  rcases hf with hf | hf
  · exact .inl hf
  · rcases h3 with h3 | ⟨b, off, rfl, hlt, hc⟩
    · exact .inl h3
    · exact .inr ⟨b, off, rfl, Nat.lt_of_lt_of_le hlt hA.1, fun i hi => by rw [cell_agree (hA.2 b hlt (hf _ rfl))]; exact hc i hi⟩
theorem Row.foot {B : Nat} {T : List (Option Nat)} {o : Oper} {Zs : Nat → Foot} {W W' : World} {a : Option Addr} {zs : List Int} (h : Row W' a zs) (hf : ∀ x, a = some x → W.heap.size ≤ x.block) : zs = [] ∨ Ft B (footN T o Zs W W') a := by
  rcases h.2.2 with h3 | ⟨b, off, rfl, hlt, hc⟩
  · exact .inl h3
  · refine .inr fun x hx => .inr (.inl ⟨hf x hx, ?_⟩)
    injection hx with hx
    subst hx
    exact hlt
theorem RowT.agree {B : Nat} {Z : Foot} {W W' : World} {a : Option Addr} {ts : List It} (h : RowT W a ts) (hf : ts = [] ∨ Ft B Z a) (hA : Agree B Z W W') : RowT W' a ts := by
  obtain ⟨h1, h2, h3⟩ := h
  refine ⟨h1, h2, ?_⟩
  rcases hf with hf | hf
  · exact .inl hf
  · rcases h3 with h3 | ⟨b, off, rfl, hlt, hc⟩
    · exact .inl h3
    · exact .inr ⟨b, off, rfl, Nat.lt_of_lt_of_le hlt hA.1, fun i hi => by rw [cell_agree (hA.2 b hlt (hf _ rfl)), cell_agree (hA.2 b hlt (hf _ rfl))]; exact hc i hi⟩
theorem RowT.foot {B : Nat} {T : List (Option Nat)} {o : Oper} {Zs : Nat → Foot} {W W' : World} {a : Option Addr} {ts : List It} (h : RowT W' a ts) (hf : ∀ x, a = some x → W.heap.size ≤ x.block) : ts = [] ∨ Ft B (footN T o Zs W W') a := by
  rcases h.2.2 with h3 | ⟨b, off, rfl, hlt, hc⟩
  · exact .inl h3
  · refine .inr fun x hx => .inr (.inl ⟨hf x hx, ?_⟩)
    injection hx with hx
    subst hx
    exact hlt
theorem Blk.agree {B : Nat} {Z : Foot} {W W' : World} {b : Nat} {t : TypeId} {cs : Array Value} (h : Blk W b t cs) (hf : b < B ∨ Z b) (hA : Agree B Z W W') : Blk W' b t cs := (hA.2 b h.lt hf).trans h
theorem Only.agree {B b : Nat} {Z : Foot} {W W' : World} (h : Only b W W') (hB : B ≤ b) (hz : ∀ m, Z m → m ≠ b) : Agree B Z W W' := ⟨by rw [h.size]; exact Nat.le_refl _, fun n hn hm => h.rest n (by
  rcases hm with hm | hm
  · omega
  · exact hz n hm)⟩

section
variable {P : Program} {w0 : World} {D T : List (Option Nat)} {n : Nat} {a0 : Act} {Q : Exit → Act → World → Prop} {R : List Fact → Prop} {o : Oper} {rest : List Oper} {j : Nat} {fs : List Fact}
theorem step_of (f : Fact) (hg : Good w0.heap.size f) (h : Ob P w0 D T n a0 Q j o fs f) (hn : Steps P w0 D T n a0 Q R rest (j + 1) (fs ++ [f])) : Steps P w0 D T n a0 Q R (o :: rest) j fs := ⟨f, hg, h, hn⟩
/-- An operation that yields one value. -/
theorem step_fix {c : Value} (h : Ob P w0 D T n a0 Q j o fs fun v _ _ => v = c) (hn : Steps P w0 D T n a0 Q R rest (j + 1) (fs ++ [fun v _ _ => v = c])) : Steps P w0 D T n a0 Q R (o :: rest) j fs :=
  ⟨_, fun _ _ _ _ h _ => h, h, hn⟩
/-- One of whose value nothing is asked. -/
theorem step_triv (h : Ob P w0 D T n a0 Q j o fs anyFact) (hn : Steps P w0 D T n a0 Q R rest (j + 1) (fs ++ [anyFact])) : Steps P w0 D T n a0 Q R (o :: rest) j fs := ⟨_, fun _ _ _ _ _ _ => trivial, h, hn⟩

def rowF (B : Nat) (zs : List Int) : Fact := fun v Z W => ∃ a cap, v = .slice a zs.length cap ∧ Row W a zs ∧ (zs = [] ∨ Ft B Z a)
theorem rowF_good (B : Nat) (zs : List Int) : Good B (rowF B zs) := fun v Z W W' ⟨a, cap, e, hr, hf⟩ hA => ⟨a, cap, e, hr.agree hf hA, hf⟩
def rowTF (B : Nat) (ts : List It) : Fact := fun v Z W => ∃ a cap, v = .slice a ts.length cap ∧ RowT W a ts ∧ (ts = [] ∨ Ft B Z a)
theorem rowTF_good (B : Nat) (ts : List It) : Good B (rowTF B ts) := fun v Z W W' ⟨a, cap, e, hr, hf⟩ hA => ⟨a, cap, e, hr.agree hf hA, hf⟩
/-- The same, and that the row is new. -/
def rowTNF (B : Nat) (ts : List It) : Fact := fun v Z W => ∃ a cap, v = .slice a ts.length cap ∧ RowT W a ts ∧ (ts = [] ∨ Ft B Z a) ∧ (∀ x, a = some x → B ≤ x.block)
theorem rowTNF_good (B : Nat) (ts : List It) : Good B (rowTNF B ts) := fun v Z W W' ⟨a, cap, e, hr, hf, hn⟩ hA => ⟨a, cap, e, hr.agree hf hA, hf, hn⟩
/-- A network, a frame as values; what Read answers. -/
def cfF (B : Nat) (c : Cf) : Fact := fun v Z W => ∃ a cap, v = .agg #[.int .i64 c.N, .int .i64 c.Pi, .int .i64 c.E, .int .i64 c.G, .int .i64 c.F, .slice a c.P.length cap] ∧ Row W a c.P ∧ (c.P = [] ∨ Ft B Z a)
theorem cfF_good (B : Nat) (c : Cf) : Good B (cfF B c) := fun v Z W W' ⟨a, cap, e, hr, hf⟩ hA => ⟨a, cap, e, hr.agree hf hA, hf⟩
def frF (B : Nat) (g : Fr) : Fact := fun v Z W => ∃ a cap, v = .agg #[.int .i64 g.K, .int .i64 g.R, .int .i64 g.S, .int .i64 g.P.K, .int .i64 g.P.V, .slice a g.E.length cap] ∧ RowT W a g.E ∧ (g.E = [] ∨ Ft B Z a)
theorem frF_good (B : Nat) (g : Fr) : Good B (frF B g) := fun v Z W W' ⟨a, cap, e, hr, hf⟩ hA => ⟨a, cap, e, hr.agree hf hA, hf⟩
def rdF (B : Nat) (g : Fr) (er : Int) : Fact := fun v Z W => ∃ a cap, v = .tuple #[.agg #[.int .i64 g.K, .int .i64 g.R, .int .i64 g.S, .int .i64 g.P.K, .int .i64 g.P.V, .slice a g.E.length cap], .int .i64 er] ∧ RowT W a g.E ∧ (g.E = [] ∨ Ft B Z a)
theorem rdF_good (B : Nat) (g : Fr) (er : Int) : Good B (rdF B g er) := fun v Z W W' ⟨a, cap, e, hr, hf⟩ hA => ⟨a, cap, e, hr.agree hf hA, hf⟩
/-- A block that the region made, as a slice; the address of one of its cells; a box. -/
def blkF (B : Nat) (m : Nat) (t : TypeId) (cs : Array Value) : Fact := fun v Z W => ∃ b, v = .slice (some ⟨b, 0, none⟩) m m ∧ Blk W b t cs ∧ (b < B ∨ Z b)
theorem blkF_good (B m : Nat) (t : TypeId) (cs : Array Value) : Good B (blkF B m t cs) := fun v Z W W' ⟨b, e, hr, hf⟩ hA => ⟨b, e, hr.agree hf hA, hf⟩
theorem step_blk {m : Nat} {t : TypeId} {cs : Array Value} (h : Ob P w0 D T n a0 Q j o fs (blkF w0.heap.size m t cs)) (hn : Steps P w0 D T n a0 Q R rest (j + 1) (fs ++ [blkF w0.heap.size m t cs])) : Steps P w0 D T n a0 Q R (o :: rest) j fs := ⟨_, blkF_good _ _ _ _, h, hn⟩
def ptrF (B : Nat) (k : Nat) (t : TypeId) (cs : Array Value) : Fact := fun v Z W => ∃ b, v = .pointer (some ⟨b, k, none⟩) ∧ Blk W b t cs ∧ (b < B ∨ Z b)
theorem ptrF_good (B k : Nat) (t : TypeId) (cs : Array Value) : Good B (ptrF B k t cs) := fun v Z W W' ⟨b, e, hr, hf⟩ hA => ⟨b, e, hr.agree hf hA, hf⟩
theorem step_ptr {k : Nat} {t : TypeId} {cs : Array Value} (h : Ob P w0 D T n a0 Q j o fs (ptrF w0.heap.size k t cs)) (hn : Steps P w0 D T n a0 Q R rest (j + 1) (fs ++ [ptrF w0.heap.size k t cs])) : Steps P w0 D T n a0 Q R (o :: rest) j fs := ⟨_, ptrF_good _ _ _ _, h, hn⟩
def boxF (B : Nat) (t : TypeId) (m : Nat) : Fact := fun v Z W => ∃ b cs, v = .pointer (some ⟨b, 0, none⟩) ∧ Array.size cs = m ∧ Blk W b t cs ∧ Z b
theorem boxF_good (B : Nat) (t : TypeId) (m : Nat) : Good B (boxF B t m) := fun v Z W W' ⟨b, cs, e, hm, hr, hf⟩ hA => ⟨b, cs, e, hm, hr.agree (.inr hf) hA, hf⟩
/-- A box that was filled. -/
def litF (B : Nat) (t : TypeId) (cs : Array Value) : Fact := fun v Z W => ∃ b, v = .pointer (some ⟨b, 0, none⟩) ∧ Blk W b t cs ∧ (b < B ∨ Z b)
theorem litF_good (B : Nat) (t : TypeId) (cs : Array Value) : Good B (litF B t cs) := fun v Z W W' ⟨b, e, hr, hf⟩ hA => ⟨b, e, hr.agree hf hA, hf⟩
theorem step_lit {t : TypeId} {cs : Array Value} (h : Ob P w0 D T n a0 Q j o fs (litF w0.heap.size t cs)) (hn : Steps P w0 D T n a0 Q R rest (j + 1) (fs ++ [litF w0.heap.size t cs])) : Steps P w0 D T n a0 Q R (o :: rest) j fs := ⟨_, litF_good _ _ _, h, hn⟩

/-- A frame's box. -/
def frBoxF (B : Nat) (g : Fr) : Fact := fun v Z W => ∃ b a cap, v = .pointer (some ⟨b, 0, none⟩) ∧ Blk W b 29 (frBox g a cap) ∧ RowT W a g.E ∧ (b < B ∨ Z b) ∧ (g.E = [] ∨ Ft B Z a)
theorem frBoxF_good (B : Nat) (g : Fr) : Good B (frBoxF B g) := fun v Z W W' ⟨b, a, cap, e, hk, hr, hf, hf2⟩ hA => ⟨b, a, cap, e, hk.agree hf hA, hr.agree hf2 hA, hf, hf2⟩

/-- A network's box. -/
def cfBoxF (B : Nat) (c : Cf) : Fact := fun v Z W => ∃ b a cap, v = .pointer (some ⟨b, 0, none⟩) ∧ Blk W b 24 (confBox c a cap) ∧ Row W a c.P ∧ (b < B ∨ Z b) ∧ (c.P = [] ∨ Ft B Z a)
theorem cfBoxF_good (B : Nat) (c : Cf) : Good B (cfBoxF B c) := fun v Z W W' ⟨b, a, cap, e, hk, hr, hf, hf2⟩ hA => ⟨b, a, cap, e, hk.agree hf hA, hr.agree hf2 hA, hf, hf2⟩

theorem wanted_at {i : Nat} {b : Bool} {d : Tmp} {a : Act} (h : o.guard = some (i, b)) (hd : dstOf D i = some d) (hv : a.eval (.tmp d) = .bool b) : Region.wanted o (yieldsOf D a) = true := by simp [Region.wanted, h, yieldsOf, hd, hv]
theorem wanted_not {i : Nat} {b : Bool} {d : Tmp} {a : Act} (h : o.guard = some (i, b)) (hd : dstOf D i = some d) (hv : a.eval (.tmp d) = .bool (!b)) : Region.wanted o (yieldsOf D a) = false := by simp [Region.wanted, h, yieldsOf, hd, hv]
theorem wanted_none (h : o.guard = none) (y : Nat → Option Bool) : Region.wanted o y = true := by simp [Region.wanted, h]
end

theorem arr6 {cs : Array Value} (h : cs.size = 6) : ∃ u0 u1 u2 u3 u4 u5, cs = #[u0, u1, u2, u3, u4, u5] :=
  ⟨cs[0], cs[1], cs[2], cs[3], cs[4], cs[5], by
    apply Array.ext
    · simp [h]
    · intro i h1 h2
      rcases (by omega : i = 0 ∨ i = 1 ∨ i = 2 ∨ i = 3 ∨ i = 4 ∨ i = 5) with rfl | rfl | rfl | rfl | rfl | rfl <;> rfl⟩
/-- A box of six cells, filled. -/
theorem Blk.fill6 {w : World} {g : Nat} {t : TypeId} {x0 x1 x2 x3 x4 x5 : Value} (h : Blk w g t #[x0, x1, x2, x3, x4, x5]) (u0 u1 u2 u3 u4 u5 : Value) :
    Blk ((((((w.setCell ⟨g, 0, none⟩ u0).setCell ⟨g, 1, none⟩ u1).setCell ⟨g, 2, none⟩ u2).setCell ⟨g, 3, none⟩ u3).setCell ⟨g, 4, none⟩ u4).setCell ⟨g, 5, none⟩ u5) g t #[u0, u1, u2, u3, u4, u5] :=
  ((((((h.set 0 u0).set 1 u1).set 2 u2).set 3 u3).set 4 u4).set 5 u5)
theorem Only.fill6 (w : World) (g : Nat) (u0 u1 u2 u3 u4 u5 : Value) : Only g w ((((((w.setCell ⟨g, 0, none⟩ u0).setCell ⟨g, 1, none⟩ u1).setCell ⟨g, 2, none⟩ u2).setCell ⟨g, 3, none⟩ u3).setCell ⟨g, 4, none⟩ u4).setCell ⟨g, 5, none⟩ u5) :=
  ((((((Only.refl g w).set 0 u0).set 1 u1).set 2 u2).set 3 u3).set 4 u4).set 5 u5

/-- A frame of so many slots, written out. -/
theorem frame_lit (t : Array Value) (n : Nat) (h : t.size = n) (x : Nat → Value) (hx : ∀ i, t.getD i undef = x i) : t = ((List.range n).map x).toArray := by
  apply Array.ext
  · simp [h]
  · intro i h1 h2
    simp only [List.getElem_toArray, List.getElem_map, List.getElem_range]
    rw [← hx i]
    simp [h1]

/-- What a store into a box keeps, and where the box lies. -/
theorem store_apart {B : Nat} {o : Oper} {Zs : Nat → Foot} {W W' : World} {i b : Nat} (hO : Only b W W') (hB : B ≤ b) (hb : Zs i b) (hap : ∀ x m, dep o x = true → x ≠ i → Zs x m → ¬ Zs i m) (x : Nat) (hx : dep o x = true) (hne : x ≠ i) : Agree B (Zs x) W W' :=
  hO.agree hB fun m hm e => hap x m hx hne hm (e ▸ hb)

/-- A box that the region made is new. -/
theorem ptr_new {b b' lo hi : Nat} {v : Value} (e' : v = .pointer (some ⟨b', 0, none⟩)) (e : v = .pointer (some ⟨b, 0, none⟩)) (h : lo ≤ b' ∧ b' < hi) : lo ≤ b ∧ b < hi := by
  rw [e] at e'
  injection e' with e'
  injection e' with e'
  injection e' with e'
  subst e'
  exact h

end Go.Proofs.YtkflijbhlibadabDoor
/-
  Rows of items: a store elsewhere, a store into one, a row appended to one that the call made itself.
-/
namespace Go.Proofs.YtkflijbhlibadabDoor
open Go.RowKit Plait
set_option maxRecDepth 100000
set_option linter.unusedVariables false

theorem RowT.far2 {w : World} {a : Option Addr} {ts : List It} (h : RowT w a ts) (g i : Nat) (u : Value) (hne : ts = [] ∨ ∀ x, a = some x → x.block ≠ g) : RowT (w.setCell ⟨g, i, none⟩ u) a ts := by
  obtain ⟨h1, h2, h3⟩ := h
  refine ⟨h1, h2, ?_⟩
  rcases h3 with h3 | ⟨b, off, rfl, hlt, hc⟩
  · exact .inl h3
  · rcases hne with hne | hne
    · exact .inl hne
    · have hb : b ≠ g := hne _ rfl
      refine .inr ⟨b, off, rfl, by simpa [World.setCell] using hlt, fun i hi => ?_⟩
      rw [World.cell?_setCell_other _ _ _ _ (fun e => hb (by injection e with e1; exact e1.symm)), World.cell?_setCell_other _ _ _ _ (fun e => hb (by injection e with e1; exact e1.symm))]
      exact hc i hi

theorem RowT.setAt {w : World} {b off : Nat} {ts : List It} (h : RowT w (some ⟨b, off, none⟩) ts) (j : Nat) (hj : j < ts.length) (t : It) (hK : inI t.K) (hV : inI t.V) :
    RowT ((w.setCell ⟨b, off + j * 2, none⟩ (.int .i64 t.K)).setCell ⟨b, off + j * 2 + 1, none⟩ (.int .i64 t.V)) (some ⟨b, off, none⟩) (ts.set j t) := by
  obtain ⟨h1, h2, h3⟩ := h
  refine ⟨by rw [List.length_set]; exact h1, fun u hu => ?_, ?_⟩
  · rcases List.mem_or_eq_of_mem_set hu with h | h
    · exact h2 u h
    · rw [h]; exact ⟨hK, hV⟩
  · rcases h3 with h3 | ⟨b', off', e, hlt, hc⟩
    · rw [h3] at hj; simp at hj
    · injection e with e
      injection e with e1 e2
      subst e1 e2
      refine .inr ⟨b, off, rfl, by simpa [World.setCell] using hlt, fun i hi => ?_⟩
      have hi' : i < ts.length := by simpa using hi
      have ne : ∀ x y : Nat, x ≠ y → (⟨b, x, none⟩ : Addr) ≠ ⟨b, y, none⟩ := fun x y h e => h (by injection e)
      by_cases hij : i = j
      · subst hij
        have c1 := (hc i hi').1
        have c2 := (hc i hi').2
        constructor
        · rw [World.cell?_setCell_other _ _ _ _ (ne _ _ (by omega)), World.cell?_setCell_same _ _ _ c1]
          simp
        · rw [World.cell?_setCell_same (u := .int .i64 ts[i].V) _ _ _ (by rw [World.cell?_setCell_other _ _ _ _ (ne _ _ (by omega))]; exact c2)]
          simp
      · constructor
        · rw [World.cell?_setCell_other _ _ _ _ (ne _ _ (by omega)), World.cell?_setCell_other _ _ _ _ (ne _ _ (by omega)), (hc i hi').1, List.getElem_set_ne (by omega)]
        · rw [World.cell?_setCell_other _ _ _ _ (ne _ _ (by omega)), World.cell?_setCell_other _ _ _ _ (ne _ _ (by omega)), (hc i hi').2, List.getElem_set_ne (by omega)]

theorem OwnT.empty (w : World) (base : Nat) (hb : base ≤ w.heap.size) : OwnT base (w.alloc (.cells #[] 26)) (.slice (some ⟨w.heap.size, 0, none⟩) 0 0) [] := by
  have h := World.ownsRow_lit (base := base) (e := 26) (size := 2) w #[] 0 hb (by unfold maxLen; omega) (by simp)
  unfold OwnT
  simpa [itCells] using h

theorem itCells_one (ts : List It) : ∀ u ∈ itCells ts, u.oneCell' = true := by
  intro u hu
  unfold itCells at hu
  obtain ⟨t, _, h⟩ := List.mem_flatMap.1 hu
  simp at h
  rcases h with rfl | rfl <;> rfl

theorem run_appRT (w : World) (ty : TypeId) (base : Nat) (v : Value) (zs : List It) (hown : OwnT base w v zs) (A : Option Addr) (ys : List It) (c : Nat) (hr : RowT w A ys) (hlen : zs.length ≤ 1000000) (hlen2 : ys.length ≤ 1000000) (hbase : base ≤ w.heap.size) :
    ∃ v' w', (Builtin.append_ #[27, 27] ty #[v, .slice A ys.length c]).run Tryd.prog w = .ok v' w' ∧ OwnT base w' v' (zs ++ ys) ∧ w.grownBy w' v.ownBlock := by
  obtain ⟨i, hi, hz0, hz1, hz2⟩ := info_parts infoItem
  cases A with
  | none =>
    have hy : ys = [] := by
      rcases hr.2.2 with h | ⟨b, off, h, _⟩
      · exact h
      · cases h
    subst hy
    refine ⟨v, w, run_app_none w base _ ty 26 i 2 Tryd.underlying27 hi v zs.length _ hown c, by rw [List.append_nil]; exact hown, World.grownBy.refl w _⟩
  | some ad =>
    have hcells : ∀ j u, (itCells ys)[j]? = some u → w.cell? (ad.add j) = some u := by
      intro j u hu
      rcases hr.2.2 with h | ⟨b, off, h, _, hc⟩
      · subst h; simp [itCells] at hu
      · injection h with h
        subst h
        rw [addr_at]
        have hl := itCells_len ys
        have hj : j < ys.length * 2 := by
          rcases Nat.lt_or_ge j (ys.length * 2) with h' | h'
          · exact h'
          · rw [List.getElem?_eq_none (by omega)] at hu; cases hu
        obtain ⟨k, hk⟩ : ∃ k, j = k * 2 ∨ j = k * 2 + 1 := ⟨j / 2, by omega⟩
        rcases hk with rfl | rfl
        · have := (itCells_get ys k (by omega)).1
          rw [this] at hu
          rw [← hu]
          exact (hc k (by omega)).1
        · have := (itCells_get ys k (by omega)).2
          rw [this] at hu
          rw [← hu, ← Nat.add_assoc]
          exact (hc k (by omega)).2
    obtain ⟨v', w', hrun, h2, h3, _, _⟩ := run_append_own_at (P := Tryd.prog) w base 27 ty 26 i (.agg #[.int .i64 0, .int .i64 0]) 2 16 Tryd.underlying27 hi hz0 hz1 hz2 rfl (by omega) v zs.length _ hown ad ys.length c (itCells ys) (itCells_len ys) hcells
      (itCells_one ys) (by unfold maxLen; omega) (by omega) hbase
    refine ⟨v', w', hrun, ?_, h3⟩
    unfold OwnT
    rw [List.length_append, itCells_append]
    exact h2

/-- At a plain region's list. -/
theorem wpList_appRT {ops : Array Oper} {rest : List Oper} {o : Oper} {a : Act} {Q : Exit → Act → World → Prop} (w : World) (hgd : o.guard = none) (s x : Operand)
    (ho : o.op = .call { callee := .builtin .append, args := #[s, x], argTypes := #[27, 27] })
    (base : Nat) (v : Value) (zs : List It) (hs : a.eval s = v) (hown : OwnT base w v zs) (A : Option Addr) (ys : List It) (c : Nat) (hx : a.eval x = .slice A ys.length c) (hr : RowT w A ys) (hlen : zs.length ≤ 1000000) (hlen2 : ys.length ≤ 1000000) (hbase : base ≤ w.heap.size)
    (h : ∀ v' w', OwnT base w' v' (zs ++ ys) → w.grownBy w' v.ownBlock → wpList Tryd.prog ops Q rest (a.put o.dst v') w') : wpList Tryd.prog ops Q (o :: rest) a w := by
  obtain ⟨v', w', hrun, h2, h3⟩ := run_appRT w o.type base v zs hown A ys c hr hlen hlen2 hbase
  refine wpList_plain hgd fun _ hK => ?_
  unfold Oper.wp execOp
  simp only [ho, resolve, invoke, builtin, Sem.run_bind, Sem.run_pure, Result.andThen_ok, List.map_toArray, List.map_cons, List.map_nil, hs, hx, hrun]
  exact hK _ _ (h v' w' h2 h3)

end Go.Proofs.YtkflijbhlibadabDoor
/-
  Plain mathematics of rings, with no program in it: remainders, links and their ends, ways round.
-/
namespace Plait

/-- Steps, each cut down by itself. -/
def accI (n : Int) (zs : List Int) : Int := zs.foldl (fun x s => (x + s.tmod n).tmod n) 0

theorem tmod_in (a n : Int) (hn : 0 < n) : -n < a.tmod n ∧ a.tmod n < n := by
  rcases Int.le_total 0 a with h | h
  · rw [Int.tmod_eq_emod_of_nonneg h]
    have := Int.emod_nonneg a (show n ≠ 0 by omega)
    have := Int.emod_lt_of_pos a hn
    omega
  · have e : a.tmod n = -((-a) % n) := by rw [show a = -(-a) by omega, Int.neg_tmod, Int.tmod_eq_emod_of_nonneg (by omega)]; simp
    have := Int.emod_nonneg (-a) (show n ≠ 0 by omega)
    have := Int.emod_lt_of_pos (-a) hn
    omega

theorem tmod_emod (a n : Int) : a.tmod n % n = a % n := by
  have h := Int.mul_tdiv_add_tmod a n
  have e : a.tmod n = a + n * (-(a.tdiv n)) := by rw [Int.mul_neg]; omega
  rw [e, Int.add_mul_emod_self_left]

theorem accI_in (n : Int) (hn : 0 < n) (zs : List Int) : -n < accI n zs ∧ accI n zs < n := by
  rcases List.eq_nil_or_concat zs with rfl | ⟨l, z, rfl⟩
  · simp [accI]; omega
  · unfold accI
    rw [List.concat_eq_append, List.foldl_append]
    exact tmod_in _ _ hn

theorem accI_take (n : Int) (zs : List Int) (k : Nat) (hk : k < zs.length) : accI n (zs.take (k + 1)) = (accI n (zs.take k) + zs[k].tmod n).tmod n := by
  unfold accI
  rw [List.take_succ_eq_append_getElem hk, List.foldl_append]
  rfl

theorem foldl_emod (n : Int) : ∀ (zs : List Int) (x y : Int), x % n = y % n → (zs.foldl (fun x s => (x + s.tmod n).tmod n) x) % n = (y + zs.sum) % n
  | [], x, y, h => by simpa using h
  | z :: r, x, y, h => by
    rw [List.foldl_cons, foldl_emod n r _ (y + z) (by rw [tmod_emod, Int.add_emod, tmod_emod, h, ← Int.add_emod]), List.sum_cons]
    congr 1
    omega

theorem accI_emod (n : Int) (zs : List Int) : accI n zs % n = zs.sum % n := by
  have := foldl_emod n zs 0 0 rfl
  simpa [accI] using this

theorem emod_neg (n x : Int) (h1 : -n < x) (h2 : x < 0) : x + n = x % n := by
  have e : x % n = (x + n) % n := by rw [Int.add_emod_right]
  rw [e]
  exact (Int.emod_eq_of_lt (by omega) (by omega)).symm

def distI (n f t d : Int) : Int := if d < 0 then (f - t) % n else (t - f) % n
def endA (n l : Int) : Int := if l < n then l else l - n
def endB (n l : Int) : Int := if l < n then (l + 1) % n else (l - n + 2) % n

def nodeI (n x : Int) : Bool := decide (0 ≤ x) && decide (x < n)

/-- The link between two nodes, as the program looks for it. -/
def linkI (n a b : Int) : Int × Bool :=
  if nodeI n a && nodeI n b then
    if (b - a) % n = 1 then (a, true) else if (b - a) % n = 2 then (n + a, true) else if (a - b) % n = 1 then (b, true) else if (a - b) % n = 2 then (n + b, true) else (0, false)
  else (0, false)

/-- A link joins them. -/
def joins (n a b k : Int) : Bool := endA n k == a && endB n k == b || endA n k == b && endB n k == a

/-- The first link that joins them. -/
def linkR (n a b : Int) : Int × Bool :=
  match (List.range (2 * n).toNat).find? (fun (k : Nat) => joins n a b k) with
  | some k => (k, true)
  | none => (0, false)

theorem linkR_hit (n a b : Int) (k : Nat) (hk : (k : Int) < 2 * n) (h : joins n a b k = true) (hno : ∀ j : Nat, j < k → joins n a b j = false) : linkR n a b = ((k : Int), true) := by
  have e : (List.range (2 * n).toNat).find? (fun (k : Nat) => joins n a b k) = some k := by
    rw [List.find?_range_eq_some]
    exact ⟨h, by rw [List.mem_range]; omega, fun j hj => by simp [hno j hj]⟩
  unfold linkR
  rw [e]
theorem linkR_none (n a b : Int) (hno : ∀ j : Nat, (j : Int) < 2 * n → joins n a b j = false) : linkR n a b = (0, false) := by
  have e : (List.range (2 * n).toNat).find? (fun (k : Nat) => joins n a b k) = none := by
    rw [List.find?_eq_none]
    intro j hj
    rw [List.mem_range] at hj
    simp [hno j (by omega)]
  unfold linkR
  rw [e]

theorem endA_in (n : Int) (k : Nat) (hk : (k : Int) < 2 * n) : 0 ≤ endA n k ∧ endA n k < n := by unfold endA; split <;> omega
theorem endB_in (n k : Int) (hn : 0 < n) : 0 ≤ endB n k ∧ endB n k < n := by
  unfold endB; split <;> exact ⟨Int.emod_nonneg _ (by omega), Int.emod_lt_of_pos _ hn⟩

theorem link_fin : ∀ n : Fin 7, ∀ a b : Fin 12, linkI (6 + (n.val : Int)) a.val b.val = linkR (6 + (n.val : Int)) a.val b.val ∨ ¬ (a.val < 6 + n.val ∧ b.val < 6 + n.val) := by decide +kernel

theorem linkI_linkR (n a b : Int) (h1 : 6 ≤ n) (h2 : n ≤ 12) : linkI n a b = linkR n a b := by
  by_cases h : (0 ≤ a ∧ a < n) ∧ (0 ≤ b ∧ b < n)
  · have hf := link_fin ⟨(n - 6).toNat, by omega⟩ ⟨a.toNat, by omega⟩ ⟨b.toNat, by omega⟩
    have e1 : 6 + (((n - 6).toNat : Nat) : Int) = n := by omega
    have e2 : ((a.toNat : Nat) : Int) = a := by omega
    have e3 : ((b.toNat : Nat) : Int) = b := by omega
    simp only [e1, e2, e3] at hf
    rcases hf with hf | hf
    · exact hf
    · exfalso; apply hf; omega
  · have hno : ∀ j : Nat, (j : Int) < 2 * n → joins n a b j = false := by
      intro j hj
      have := endA_in n j hj
      have := endB_in n j (by omega)
      unfold joins
      generalize endA n j = x at *
      generalize endB n j = y at *
      by_cases ha : 0 ≤ a ∧ a < n
      · have e1 : (x == b) = false := by simp; omega
        have e2 : (y == b) = false := by simp; omega
        simp [e1, e2]
      · have e1 : (x == a) = false := by simp; omega
        have e2 : (y == a) = false := by simp; omega
        simp [e1, e2]
    rw [linkR_none n a b hno]
    unfold linkI
    rw [if_neg]
    unfold nodeI
    simp
    omega

theorem linkI_off (n a b : Int) (h : nodeI n a = false) : linkI n a b = (0, false) := by simp [linkI, h]
theorem linkI_off2 (n a b : Int) (h : nodeI n b = false) : linkI n a b = (0, false) := by simp [linkI, h]
theorem linkI_1 (n a b : Int) (h : nodeI n a = true) (h' : nodeI n b = true) (e : (b - a) % n = 1) : linkI n a b = (a, true) := by simp [linkI, h, h', e]
theorem linkI_2 (n a b : Int) (h : nodeI n a = true) (h' : nodeI n b = true) (e : (b - a) % n = 2) : linkI n a b = (n + a, true) := by simp [linkI, h, h', e]
theorem linkI_3 (n a b : Int) (h : nodeI n a = true) (h' : nodeI n b = true) (n1 : (b - a) % n ≠ 1) (n2 : (b - a) % n ≠ 2) (e : (a - b) % n = 1) : linkI n a b = (b, true) := by simp [linkI, h, h', n1, n2, e]
theorem linkI_4 (n a b : Int) (h : nodeI n a = true) (h' : nodeI n b = true) (n1 : (b - a) % n ≠ 1) (n2 : (b - a) % n ≠ 2) (e : (a - b) % n = 2) : linkI n a b = (n + b, true) := by simp [linkI, h, h', n1, n2, e]
theorem linkI_5 (n a b : Int) (h : nodeI n a = true) (h' : nodeI n b = true) (n1 : (b - a) % n ≠ 1) (n2 : (b - a) % n ≠ 2) (n3 : (a - b) % n ≠ 1) (n4 : (a - b) % n ≠ 2) : linkI n a b = (0, false) := by simp [linkI, h, h', n1, n2, n3, n4]

/-- So many nodes as they are reached from one. -/
def walkTo (n f d : Int) (k : Nat) : List Int := (List.range k).map fun (j : Nat) => (f + ((j : Int) + 1) * d) % n
theorem walkTo_succ (n f d : Int) (k : Nat) : walkTo n f d (k + 1) = walkTo n f d k ++ [(f + ((k : Int) + 1) * d) % n] := by simp [walkTo, List.range_succ]
theorem walkTo_len (n f d : Int) (k : Nat) : (walkTo n f d k).length = k := by simp [walkTo]
theorem walkTo_in (n f d : Int) (k : Nat) (hn : 0 < n) : ∀ z ∈ walkTo n f d k, 0 ≤ z ∧ z < n := by
  intro z hz
  unfold walkTo at hz
  rw [List.mem_map] at hz
  obtain ⟨j, _, rfl⟩ := hz
  exact ⟨Int.emod_nonneg _ (by omega), Int.emod_lt_of_pos _ hn⟩

/-- The owner from which a way goes. -/
def lastI (os : List Int) (d : Int) : Int := if d < 0 then os.headD 0 else os.getLastD 0

/-- The others, as they are reached. -/
def wayI (n : Int) (os : List Int) (d : Int) : List Int := if os = [] then [] else (walkTo n (lastI os d) d (n.toNat - 1)).filter fun x => !inB os x

/-- The same, as the document's own text has it. -/
def wayR (n : Int) (os : List Int) (d : Int) : List Int := if os = [] then [] else walkTo n (lastI os d) d (n.toNat - os.length)

theorem way1_fin : ∀ n : Fin 7, ∀ a : Fin 12, ∀ up : Bool, wayI (6 + (n.val : Int)) [(a.val : Int)] (if up then 1 else -1) = wayR (6 + (n.val : Int)) [(a.val : Int)] (if up then 1 else -1) ∨ ¬ (a.val < 6 + n.val) := by decide +kernel
theorem way2_fin : ∀ n : Fin 7, ∀ a : Fin 12, ∀ up : Bool, wayI (6 + (n.val : Int)) [(a.val : Int), ((a.val : Int) + 1) % (6 + (n.val : Int))] (if up then 1 else -1) = wayR (6 + (n.val : Int)) [(a.val : Int), ((a.val : Int) + 1) % (6 + (n.val : Int))] (if up then 1 else -1) ∨ ¬ (a.val < 6 + n.val) := by decide +kernel

/-- Owners as they may be: one, or one and the next. -/
def OwnersOk (n : Int) (os : List Int) : Prop := ∃ a, 0 ≤ a ∧ a < n ∧ (os = [a] ∨ os = [a, (a + 1) % n])

theorem wayI_wayR (n : Int) (os : List Int) (d : Int) (h1 : 6 ≤ n) (h2 : n ≤ 12) (ho : OwnersOk n os) (hd : d = 1 ∨ d = -1) : wayI n os d = wayR n os d := by
  obtain ⟨a, a0, a1, ho⟩ := ho
  have e1 : 6 + (((n - 6).toNat : Nat) : Int) = n := by omega
  have e2 : ((a.toNat : Nat) : Int) = a := by omega
  have hd' : ∃ up : Bool, d = if up then 1 else -1 := by rcases hd with rfl | rfl; exact ⟨true, rfl⟩; exact ⟨false, rfl⟩
  obtain ⟨up, rfl⟩ := hd'
  rcases ho with rfl | rfl
  · have hf := way1_fin ⟨(n - 6).toNat, by omega⟩ ⟨a.toNat, by omega⟩ up
    simp only [e1, e2] at hf
    rcases hf with hf | hf
    · exact hf
    · exfalso; apply hf; omega
  · have hf := way2_fin ⟨(n - 6).toNat, by omega⟩ ⟨a.toNat, by omega⟩ up
    simp only [e1, e2] at hf
    rcases hf with hf | hf
    · exact hf
    · exfalso; apply hf; omega

end Plait
/-
  Plain mathematics of the one locus, with no program in it: what is allowed, whom it hits, what it emits, how its clock seems.
-/
namespace Plait

structure Ac where
  H : Int
  N : Int
  T : List UInt8
deriving Inhabited, DecidableEq

structure Fa where
  K : Int
  At : Int
  F : Int
  To : Int
  A : List Ac
  D : List Int

/-- How many places there are of a kind. -/
def placesI (c : Cf) (k : Int) : Int := if k = 1 then c.N else if k = 2 then 2 * c.N else 1
def knownL (f : Fa) : Bool := f.K == 0 || f.K == 1 || f.K == 2
def placeL (c : Cf) (f : Fa) : Bool := decide (0 ≤ f.At) && decide (f.At < placesI c f.K)
def roundsL (f : Fa) : Bool := decide (0 ≤ f.F) && decide (f.F ≤ f.To) && decide (f.To ≤ 1000)
def longA (a : Ac) : Bool := decide (1000 < a.T.length)
def longL (f : Fa) : Bool := decide ((40 : Int) < (f.A.length : Int)) || decide ((40 : Int) < (f.D.length : Int)) || f.A.any longA
def checkL (c : Cf) (f : Fa) : Int := if knownL f then if placeL c f && roundsL f then if longL f then 2 else 0 else 1 else 6

theorem checkL_k (c : Cf) (f : Fa) (h : knownL f = false) : checkL c f = 6 := by simp [checkL, h]
theorem checkL_p (c : Cf) (f : Fa) (h : knownL f = true) (h2 : (placeL c f && roundsL f) = false) : checkL c f = 1 := by unfold checkL; rw [h, h2]; rfl
theorem checkL_l (c : Cf) (f : Fa) (h : knownL f = true) (h2 : (placeL c f && roundsL f) = true) : checkL c f = if longL f then 2 else 0 := by unfold checkL; rw [h, h2]; rfl

/-- One that may be. -/
structure Fa.Ok (c : Cf) (f : Fa) : Prop where
  k : f.K = 0 ∨ f.K = 1 ∨ f.K = 2
  a0 : 0 ≤ f.At
  a1 : f.At < placesI c f.K
  f0 : 0 ≤ f.F
  f1 : f.F ≤ f.To
  t1 : f.To ≤ 1000
  lA : f.A.length ≤ 40
  lD : f.D.length ≤ 40
  texts : ∀ a ∈ f.A, a.T.length ≤ 1000

theorem Fa.Ok.check {c : Cf} {f : Fa} (h : f.Ok c) : checkL c f = 0 := by
  obtain ⟨k, a0, a1, f0, f1, t1, lA, lD, tx⟩ := h
  have e1 : knownL f = true := by unfold knownL; rcases k with k | k | k <;> simp [k]
  have e2 : (placeL c f && roundsL f) = true := by unfold placeL roundsL; simp; omega
  have e3 : longL f = false := by
    unfold longL
    have : f.A.any longA = false := by
      rw [List.any_eq_false]
      intro a ha
      have := tx a ha
      unfold longA
      simp; omega
    rw [this]
    simp; omega
  rw [checkL_l c f e1 e2, e3]
  rfl

def hitsB (c : Cf) (f : Fa) (a b : Int) : Bool := if f.K = 1 then f.At == a else if f.K = 2 then (linkI c.N a b).2 && (linkI c.N a b).1 == f.At else false
def atB (f : Fa) (i : Int) : Bool := f.K == 1 && f.At == i
def rightB (f : Fa) (r i : Int) : Bool := decide (f.To ≤ r) || !atB f i

/-- The frame of one that took nothing but null frames. -/
def freshF (c : Cf) (r s : Int) : Fr := ⟨3, wireI c r, s, ⟨1, 0⟩, if s < c.N then List.replicate (slotsI c).toNat ⟨1, 0⟩ else []⟩
def dataF (c : Cf) (r s : Int) (b : List UInt8) : Fr := if (readF c b).2 = 0 ∧ (readF c b).1.K = 3 then (readF c b).1 else freshF c r s
def payF (f : Fr) (n : Int) : Fr := { f with P := ⟨2, n % 256⟩ }
def echF (f : Fr) (n : Int) : Fr := { f with E := List.replicate f.E.length ⟨2, n % 256⟩ }
def turnedL (b : List UInt8) (n : Int) : List UInt8 := if b = [] then [] else clean (turn b (n % (b.length : Int)))
def actL (c : Cf) (a : Ac) (r s : Int) (b : List UInt8) : List UInt8 :=
  if a.H % 7 = 1 then b else if a.H % 7 = 2 then b.take (a.N % ((b.length : Int) + 1)).toNat else if a.H % 7 = 3 then clean a.T else if a.H % 7 = 4 then turnedL b a.N
  else if a.H % 7 = 5 then textF (payF (dataF c r s b) a.N) else if a.H % 7 = 6 then textF (echF (dataF c r s b) a.N) else []
def pickA (A : List Ac) (n : Int) : Ac := A.getD (n % (A.length : Int)).toNat default
def pickI (D : List Int) (n : Int) : Int := D.getD (n % (D.length : Int)).toNat 0
def emitL (c : Cf) (f : Fa) (r s a b : Int) (base : List UInt8) : List UInt8 :=
  if hitsB c f a b = false ∨ f.To ≤ r then base else if r < f.F ∨ f.A = [] then [] else actL c (pickA f.A (17 * r + 5 * s + b)) r s base
def clampI (w x : Int) : Int := max (-w) (min x w)
def devL (c : Cf) (f : Fa) (r o i dev : Int) : Int :=
  if r < f.F ∨ f.To ≤ r ∨ atB f o = false then dev else if f.D = [] then 0 else clampI (3 * windowI c) (pickI f.D (13 * r + i))

theorem readF_ok (c : Cf) (l : List UInt8) : (readF c l).1.Ok c ∨ (readF c l).1 = zeroF := by
  unfold readF
  split
  · exact .inr rfl
  · unfold readB
    split
    · exact .inr rfl
    · split
      · exact .inr rfl
      · split
        · exact .inr rfl
        · rename_i h4
          exact .inl (Fr.Ok.of (by simpa using h4))

theorem readF_ok3 {c : Cf} {l : List UInt8} (h3 : (readF c l).1.K = 3) : (readF c l).1.Ok c := by
  rcases readF_ok c l with h | h
  · exact h
  · rw [h] at h3; simp [zeroF] at h3

theorem freshF_ok (c : Cf) (r s : Int) (hc : c.Ok) (s0 : 0 ≤ s) (s1 : s < slotsI c) : (freshF c r s).Ok c where
  s0 := s0
  s1 := s1
  r0 := by show 0 ≤ wireI c r; unfold wireI; omega
  r1 := by show wireI c r < 65536; unfold wireI; omega
  k1 := by show (1 : Int) ≤ 3; omega
  k3 := by show (3 : Int) ≤ 3; omega
  kp := .inl rfl
  p := rfl
  pz := .inl rfl
  len := by
    have h6 := hc.n6
    show ((if s < c.N then List.replicate (slotsI c).toNat (⟨1, 0⟩ : It) else []).length : Int) = echoI c 3 s
    unfold echoI
    by_cases h : s < c.N
    · rw [if_pos h, if_pos ⟨rfl, h⟩, List.length_replicate]
      unfold slotsI; omega
    · rw [if_neg h, if_neg (by simp [h])]
      rfl
  all := by
    intro i hi
    change i ∈ (if s < c.N then List.replicate (slotsI c).toNat (⟨1, 0⟩ : It) else []) at hi
    split at hi
    · rw [List.eq_of_mem_replicate hi]; rfl
    · simp at hi

theorem dataF_ok (c : Cf) (r s : Int) (b : List UInt8) (hc : c.Ok) (s0 : 0 ≤ s) (s1 : s < slotsI c) : (dataF c r s b).Ok c ∧ (dataF c r s b).K = 3 := by
  unfold dataF
  split
  · rename_i h
    exact ⟨readF_ok3 h.2, h.2⟩
  · exact ⟨freshF_ok c r s hc s0 s1, rfl⟩

theorem payF_ok {c : Cf} {f : Fr} (h : f.Ok c) (hK : f.K = 3) (n : Int) : (payF f n).Ok c where
  s0 := h.s0
  s1 := h.s1
  r0 := h.r0
  r1 := h.r1
  k1 := h.k1
  k3 := h.k3
  kp := h.kp
  p := by
    show itemB ⟨2, n % 256⟩ (f.K == 3) = true
    unfold itemB
    simp
    omega
  pz := .inl hK
  len := h.len
  all := h.all

theorem echF_ok {c : Cf} {f : Fr} (h : f.Ok c) (n : Int) : (echF f n).Ok c where
  s0 := h.s0
  s1 := h.s1
  r0 := h.r0
  r1 := h.r1
  k1 := h.k1
  k3 := h.k3
  kp := h.kp
  p := h.p
  pz := h.pz
  len := by show ((List.replicate f.E.length (⟨2, n % 256⟩ : It)).length : Int) = _; rw [List.length_replicate]; exact h.len
  all := by
    intro i hi
    rw [List.eq_of_mem_replicate hi]
    unfold itemB
    simp
    omega

/-- The locus that the laws make of any one. -/
def cutA (a : Ac) : Ac := ⟨a.H, a.N, a.T.take 300⟩
def makeL (c : Cf) (f : Fa) : Fa :=
  ⟨f.K % 3, if f.K % 3 = 1 then f.At % c.N else if f.K % 3 = 2 then f.At % (2 * c.N) else 0, f.F % 60, f.F % 60 + f.To % 60, (f.A.take 10).map cutA, f.D.take 10⟩
def fewL (f : Fa) : Bool := f.A.all (fun a => decide (a.T.length ≤ 1200)) && decide (f.A.length ≤ 50) && decide (f.D.length ≤ 50)

/-- More than Ok: the numbers are small. -/
structure Fa.Small (c : Cf) (f : Fa) : Prop where
  ok : f.Ok c
  f60 : f.F < 60
  t119 : f.To < 119
  lA : f.A.length ≤ 10
  lD : f.D.length ≤ 10
  texts : ∀ a ∈ f.A, a.T.length ≤ 300

theorem makeL_small (c : Cf) (f : Fa) (hc : c.Ok) : (makeL c f).Small c := by
  have h6 := hc.n6
  have b1 := Int.emod_nonneg f.At (show c.N ≠ 0 by omega)
  have b2 := Int.emod_lt_of_pos f.At (show 0 < c.N by omega)
  have b3 := Int.emod_nonneg f.At (show 2 * c.N ≠ 0 by omega)
  have b4 := Int.emod_lt_of_pos f.At (show 0 < 2 * c.N by omega)
  have lA : ((f.A.take 10).map cutA).length ≤ 10 := by simp; omega
  have lD : (f.D.take 10).length ≤ 10 := by simp; omega
  have tx : ∀ a ∈ (f.A.take 10).map cutA, a.T.length ≤ 300 := by
    intro a ha
    obtain ⟨x, _, rfl⟩ := List.mem_map.1 ha
    unfold cutA
    simp; omega
  refine ⟨⟨?_, ?_, ?_, ?_, ?_, ?_, ?_, ?_, fun a ha => ?_⟩, ?_, ?_, lA, lD, tx⟩
  · show f.K % 3 = 0 ∨ f.K % 3 = 1 ∨ f.K % 3 = 2; omega
  · show 0 ≤ if f.K % 3 = 1 then f.At % c.N else if f.K % 3 = 2 then f.At % (2 * c.N) else 0
    split
    · omega
    · split <;> omega
  · show (if f.K % 3 = 1 then f.At % c.N else if f.K % 3 = 2 then f.At % (2 * c.N) else 0) < if f.K % 3 = 1 then c.N else if f.K % 3 = 2 then 2 * c.N else 1
    split
    · omega
    · split <;> omega
  · show 0 ≤ f.F % 60; omega
  · show f.F % 60 ≤ f.F % 60 + f.To % 60; omega
  · show f.F % 60 + f.To % 60 ≤ 1000; omega
  · exact Nat.le_trans lA (by omega)
  · exact Nat.le_trans lD (by omega)
  · exact Nat.le_trans (tx a ha) (by omega)
  · show f.F % 60 < 60; omega
  · show f.F % 60 + f.To % 60 < 119; omega

end Plait
/-
  Contracts of package ring, first part: steps round a ring, how far it is, a link's ends, the link between two nodes.
-/
namespace Go.Proofs.YtkflijbhlibadabDoor
open Go.RowKit Plait
set_option maxRecDepth 100000
set_option linter.unusedVariables false

/-- The loop over the steps. -/
def StepAt (n : Int) (zs : List Int) (x i : Value) : Prop := ∃ k : Nat, k ≤ zs.length ∧ i = .int .i64 k ∧ x = .int .i64 (accI n (zs.take k))

theorem made2 (w : World) (x y : Int) (hx : inI x) (hy : inI y) : Row (w.alloc (.cells #[.int .i64 x, .int .i64 y] 3)) (some ⟨w.heap.size, 0, none⟩) [x, y] := Row.made w [x, y] _ (by simp) (by simp; exact ⟨hx, hy⟩)

theorem ret_pair {a b c d : Int} (h : a = c) (h' : b = d) : Ending.returned (.tuple #[.int .i64 a, .int .i64 b]) = .returned (.tuple #[.int .i64 c, .int .i64 d]) := by rw [h, h']
theorem ret_found {a : Int} {b : Bool} {p : Int × Bool} (h : p = (a, b)) : Ending.returned (.tuple #[.int .i64 a, .bool b]) = .returned (.tuple #[.int .i64 p.1, .bool p.2]) := by rw [h]

/-- The loop over both orders of two nodes: the second round is reached where the first one found nothing. -/
def LinkAt (n a b : Int) (w : World) (i : Value) (w' : World) : Prop :=
  ∃ k : Nat, i = .int .i64 k ∧ Below w.heap.size w w' ∧ (k = 0 ∨ k = 1 ∧ (b - a) % n ≠ 1 ∧ (b - a) % n ≠ 2 ∨ k = 2 ∧ (b - a) % n ≠ 1 ∧ (b - a) % n ≠ 2 ∧ (a - b) % n ≠ 1 ∧ (a - b) % n ≠ 2)

end Go.Proofs.YtkflijbhlibadabDoor
/-
  Contracts of package ring, second part: who is among the owners, the walk round, what is struck out of it, ways.
-/
namespace Go.Proofs.YtkflijbhlibadabDoor
open Go.RowKit Plait
set_option maxRecDepth 100000
set_option linter.unusedVariables false

/-- The loop of a search: none ahead of k. -/
def NoneTo (zs : List Int) (p : Int → Bool) (k : Nat) : Prop := ∀ j (h : j < zs.length), j < k → p zs[j] = false

/-- What a search answers. -/
def Found (zs : List Int) (p : Int → Bool) (r : Int) : Prop := (r = -1 ∧ NoneTo zs p zs.length) ∨ ∃ k : Nat, ∃ h : k < zs.length, r = (k : Int) ∧ p zs[k] = true ∧ NoneTo zs p k

theorem NoneTo.succ {zs : List Int} {p : Int → Bool} {k : Nat} (h : NoneTo zs p k) (hk : k < zs.length) (hp : p zs[k] = false) : NoneTo zs p (k + 1) := by
  intro j hj hlt
  by_cases e : j = k
  · subst e; exact hp
  · exact h j hj (by omega)

theorem found_inB (zs : List Int) (x r : Int) (h : Found zs (fun z => x == z) r) : decide (0 ≤ r) = inB zs x := by
  rcases h with ⟨rfl, h⟩ | ⟨k, hk, rfl, he, _⟩
  · have : inB zs x = false := by
      unfold inB
      rw [Bool.eq_false_iff]
      intro hc
      rw [List.contains_iff_mem] at hc
      obtain ⟨j, hj, e⟩ := List.getElem_of_mem hc
      have := h j hj hj
      simp [e] at this
    rw [this]; rfl
  · have : inB zs x = true := by
      unfold inB
      rw [List.contains_iff_mem, eq_of_beq he]
      exact List.getElem_mem hk
    rw [this]; simp

theorem lastI_neg (zs : List Int) (d : Int) (h : d < 0) (hz : 0 < zs.length) : zs[0] = lastI zs d := by
  unfold lastI
  rw [if_pos h]
  cases zs with
  | nil => simp at hz
  | cons y r => rfl
theorem lastI_pos (zs : List Int) (d : Int) (h : ¬ d < 0) (hz : zs.length - 1 < zs.length) : zs[zs.length - 1] = lastI zs d := by
  unfold lastI
  rw [if_neg h, List.getLastD_eq_getLast?, List.getLast?_eq_getElem?, List.getElem?_eq_getElem hz]
  rfl

/-- What a call answers that makes a row which it may yet write. -/
def OwnRet7 (zs : List Int) (w : World) (e : Ending) (w' : World) : Prop := ∃ v, e = .returned v ∧ OwnI w.heap.size w' v zs ∧ Below w.heap.size w w'

/-- The loop that gathers the walk. -/
def WalkAt (n f d : Int) (w : World) (v i : Value) (w' : World) : Prop :=
  ∃ k : Nat, (k : Int) + 1 ≤ n ∧ i = .int .i64 ((k : Int) + 1) ∧ Below w.heap.size w w' ∧ OwnI w.heap.size w' v (walkTo n f d k)

/-- Numbers at the start of a block that may be written. -/
def Lies (w : World) (g : Nat) (ys : List Int) : Prop := ∃ cs, Blk w g 3 cs ∧ ∀ i (h : i < ys.length), cs[i]? = some (.int .i64 ys[i])

theorem Lies.cell {w : World} {g : Nat} {ys : List Int} (h : Lies w g ys) (i : Nat) (hi : i < ys.length) : w.cell? ⟨g, i, none⟩ = some (.int .i64 ys[i]) := by
  obtain ⟨cs, hB, hc⟩ := h
  rw [hB.at, hc i hi]
theorem Lies.frozen {w : World} {g : Nat} {ys : List Int} (h : Lies w g ys) (i : Nat) : w.frozen? ⟨g, i, none⟩ = false := by
  obtain ⟨cs, hB, hc⟩ := h
  exact hB.frozen i
theorem Lies.lt {w : World} {g : Nat} {ys : List Int} (h : Lies w g ys) : g < w.heap.size := by
  obtain ⟨cs, hB, hc⟩ := h
  exact hB.lt
theorem Lies.set {w : World} {g : Nat} {ys : List Int} (h : Lies w g ys) (i : Nat) (x : Int) : Lies (w.setCell ⟨g, i, none⟩ (.int .i64 x)) g (ys.set i x) := by
  obtain ⟨cs, hB, hc⟩ := h
  refine ⟨_, hB.set i _, fun j hj => ?_⟩
  rw [List.length_set] at hj
  have hs := hc j hj
  obtain ⟨hlt, _⟩ := Array.getElem?_eq_some_iff.1 hs
  by_cases e : i = j
  · subst e
    rw [Array.getElem?_setIfInBounds_self_of_lt hlt]
    simp
  · rw [Array.getElem?_setIfInBounds_ne e, hs, List.getElem_set_ne e]
theorem Lies.take {w : World} {g : Nat} {ys : List Int} (h : Lies w g ys) (k : Nat) : Lies w g (ys.take k) := by
  obtain ⟨cs, hB, hc⟩ := h
  refine ⟨cs, hB, fun j hj => ?_⟩
  rw [List.length_take] at hj
  rw [List.getElem_take]
  exact hc j (by omega)
theorem Lies.row {w : World} {g : Nat} {ys : List Int} (h : Lies w g ys) (hl : ys.length ≤ 9223372036854775807) (hz : ∀ z ∈ ys, -9223372036854775808 ≤ z ∧ z ≤ 9223372036854775807) : Row w (some ⟨g, 0, none⟩) ys :=
  ⟨hl, hz, .inr ⟨g, 0, rfl, h.lt, fun i hi => by rw [Nat.zero_add]; exact h.cell i hi⟩⟩
theorem OwnI.lies {base : Nat} {w : World} {v : Value} {zs : List Int} (h : OwnI base w v zs) (hz : 0 < zs.length) : ∃ g cap, v = .slice (some ⟨g, 0, none⟩) zs.length cap ∧ zs.length ≤ cap ∧ cap ≤ maxLen ∧ base ≤ g ∧ Lies w g zs := by
  rcases h.2 with ⟨_, h0⟩ | ⟨g, cap, cur, hv, hg, hb, hcap, hmax, hsz, ht⟩
  · omega
  · refine ⟨g, cap, hv, hcap, hmax, hg, cur, hb, fun i hi => ?_⟩
    have e : (cur.toList.take (zs.length * 1))[i]? = (zs.map (Value.int .i64))[i]? := by rw [ht]
    rw [List.getElem?_take, if_pos (by omega)] at e
    simpa [hi] using e

/-- Behind the last kept number all is nought. -/
theorem setCells_lies (base : Nat) : ∀ (vs : List Value) (o : Nat) (w a : World) (g : Nat) (ys : List Int), base ≤ g → Below base a w → Lies w g ys → ys.length ≤ o → Below base a (w.setCells g o vs) ∧ Lies (w.setCells g o vs) g ys
  | [], _, _, _, _, _, _, hb, hl, _ => ⟨hb, hl⟩
  | v :: r, o, w, a, g, ys, hg, hb, hl, ho => by
    refine setCells_lies base r (o + 1) (w.setCell ⟨g, o, none⟩ v) a g ys hg (hb.setCell hg v) ?_ (by omega)
    obtain ⟨cs, hB, hc⟩ := hl
    refine ⟨_, hB.set o _, fun j hj => ?_⟩
    rw [Array.getElem?_setIfInBounds_ne (by omega)]
    exact hc j hj

/-- What the loop has kept: i of the first j. -/
structure Kept (zs os ys : List Int) (i j : Nat) : Prop where
  len : ys.length = zs.length
  lt : i < j
  le : j ≤ zs.length
  low : ys.take i = (zs.take j).filter fun x => !inB os x
  high : ys.drop j = zs.drop j

theorem filter_none (os : List Int) : ∀ (zs : List Int) (k : Nat), NoneTo zs (inB os) k → (zs.take k).filter (fun x => !inB os x) = zs.take k := by
  intro zs k h
  rw [List.filter_eq_self]
  intro x hx
  obtain ⟨j, hj, rfl⟩ := List.getElem_of_mem hx
  rw [List.length_take] at hj
  rw [List.getElem_take]
  simp [h j (by omega) (by omega)]

theorem Kept.start {zs os : List Int} {k : Nat} (hk : k < zs.length) (hp : inB os zs[k] = true) (hno : NoneTo zs (inB os) k) : Kept zs os zs k (k + 1) := by
  refine ⟨rfl, by omega, by omega, ?_, rfl⟩
  rw [List.take_succ_eq_append_getElem hk, List.filter_append, filter_none os zs k hno]
  simp [hp]
theorem Kept.at {zs os ys : List Int} {i j : Nat} (h : Kept zs os ys i j) (hj : j < zs.length) (hj' : j < ys.length) : ys[j] = zs[j] := by
  have e : (ys.drop j)[0]? = (zs.drop j)[0]? := by rw [h.high]
  rw [List.getElem?_drop, List.getElem?_drop, Nat.add_zero, List.getElem?_eq_getElem hj, List.getElem?_eq_getElem hj'] at e
  exact Option.some.inj e
theorem Kept.skip {zs os ys : List Int} {i j : Nat} (h : Kept zs os ys i j) (hj : j < zs.length) (hp : inB os zs[j] = true) : Kept zs os ys i (j + 1) := by
  refine ⟨h.len, by have := h.lt; omega, by omega, ?_, ?_⟩
  · rw [List.take_succ_eq_append_getElem hj, List.filter_append, ← h.low]
    simp [hp]
  · have e := congrArg (List.drop 1) h.high
    rw [List.drop_drop, List.drop_drop] at e
    exact e
theorem Kept.keep {zs os ys : List Int} {i j : Nat} (h : Kept zs os ys i j) (hj : j < zs.length) (hp : inB os zs[j] = false) : Kept zs os (ys.set i zs[j]) (i + 1) (j + 1) := by
  have h1 := h.lt
  have h2 := h.len
  refine ⟨by rw [List.length_set]; exact h.len, by omega, by omega, ?_, ?_⟩
  · rw [List.take_succ_eq_append_getElem hj, List.filter_append, ← h.low]
    rw [List.take_succ_eq_append_getElem (by rw [List.length_set]; omega), List.getElem_set_self, List.take_set_of_le (by omega)]
    simp [hp]
  · have e := congrArg (List.drop 1) h.high
    rw [List.drop_drop, List.drop_drop] at e
    rw [List.drop_set_of_lt (by omega)]
    exact e
theorem Kept.done {zs os ys : List Int} {i : Nat} (h : Kept zs os ys i zs.length) : ys.take i = zs.filter (fun x => !inB os x) ∧ i = (zs.filter fun x => !inB os x).length := by
  have e := h.low
  rw [List.take_of_length_le (Nat.le_refl _)] at e
  refine ⟨e, ?_⟩
  rw [← e, List.length_take]
  have := h.lt
  have := h.len
  omega

end Go.Proofs.YtkflijbhlibadabDoor
/-
  Contracts of package ring, third part: the owners struck out of a walk; ways.
-/
namespace Go.Proofs.YtkflijbhlibadabDoor
open Go.RowKit Plait
set_option maxRecDepth 100000
set_option linter.unusedVariables false

theorem Row.farCell {w : World} {a : Option Addr} {zs : List Int} (h : Row w a zs) {base g : Nat} (i : Nat) (u : Value) (hne : ∀ x, a = some x → x.block < base) (hg : base ≤ g) : Row (w.setCell ⟨g, i, none⟩ u) a zs :=
  h.far g i u fun x hx => by have := hne x hx; omega

/-- The loop that strikes out. -/
def StrikeAt (zs os : List Int) (O : Option Addr) (base g : Nat) (w : World) (a b : Value) (w' : World) : Prop :=
  ∃ (i j : Nat) (ys : List Int), a = .int .i64 i ∧ b = .int .i64 j ∧ Kept zs os ys i j ∧ Lies w' g ys ∧ Row w' O os ∧ Below base w w'

theorem lastI_in (n : Int) (os : List Int) (d : Int) (h : 0 < os.length) (ho : ∀ z ∈ os, 0 ≤ z ∧ z < n) : 0 ≤ lastI os d ∧ lastI os d < n := by
  by_cases hd : d < 0
  · rw [← lastI_neg os d hd h]
    exact ho _ (List.getElem_mem h)
  · have hl : os.length - 1 < os.length := by omega
    rw [← lastI_pos os d hd hl]
    exact ho _ (List.getElem_mem hl)

end Go.Proofs.YtkflijbhlibadabDoor
/-
  Contracts of plaitingref4: what the document's own chapter 4 answers of rings.
-/
namespace Go.Proofs.YtkflijbhlibadabDoor
open Go.RowKit Plait
set_option maxRecDepth 100000
set_option linter.unusedVariables false

/-- The loop that looks for a link. -/
def RLinkAt (n a b : Int) (w : World) (i : Value) (w' : World) : Prop := ∃ k : Nat, (k : Int) ≤ 2 * n ∧ i = .int .i64 k ∧ Below w.heap.size w w' ∧ ∀ j : Nat, j < k → joins n a b j = false

/-- The loop that gathers a way. -/
def RWayAt (n f d : Int) (m : Nat) (w : World) (v i : Value) (w' : World) : Prop :=
  ∃ k : Nat, k ≤ m ∧ i = .int .i64 ((k : Int) + 1) ∧ Below w.heap.size w w' ∧ OwnI w.heap.size w' v (walkTo n f d k)

end Go.Proofs.YtkflijbhlibadabDoor
/-
  The one locus as it lies in memory: rows of acts, its box.
-/
namespace Go.Proofs.YtkflijbhlibadabDoor
open Go.RowKit Plait
set_option maxRecDepth 100000
set_option linter.unusedVariables false

/-- A slice of acts as it lies in memory. -/
def RowA (w : World) (a : Option Addr) (ts : List Ac) : Prop :=
  ts.length ≤ 9223372036854775807 ∧ (∀ t ∈ ts, inI t.H ∧ inI t.N ∧ t.T.length ≤ 9223372036854775807) ∧
  (ts = [] ∨ ∃ b off : Nat, a = some ⟨b, off, none⟩ ∧ b < w.heap.size ∧ ∀ i (h : i < ts.length), w.cell? ⟨b, off + i * 3, none⟩ = some (.int .i64 ts[i].H) ∧ w.cell? ⟨b, off + i * 3 + 1, none⟩ = some (.int .i64 ts[i].N) ∧ w.cell? ⟨b, off + i * 3 + 2, none⟩ = some (.string ⟨ts[i].T.toArray⟩))

theorem RowA.later {w w1 : World} {a : Option Addr} {ts : List Ac} (h : RowA w a ts) (hb : Below w.heap.size w w1) : RowA w1 a ts := by
  obtain ⟨h1, h2, h3⟩ := h
  refine ⟨h1, h2, ?_⟩
  rcases h3 with h3 | ⟨b, off, e, hlt, hc⟩
  · exact .inl h3
  · exact .inr ⟨b, off, e, Nat.lt_of_lt_of_le hlt hb.size, fun i hi => ⟨by rw [hb.cell (p := ⟨b, off + i * 3, none⟩) hlt]; exact (hc i hi).1, by rw [hb.cell (p := ⟨b, off + i * 3 + 1, none⟩) hlt]; exact (hc i hi).2.1, by rw [hb.cell (p := ⟨b, off + i * 3 + 2, none⟩) hlt]; exact (hc i hi).2.2⟩⟩
theorem RowA.empty (w : World) (a : Option Addr) : RowA w a [] := ⟨by simp, by simp, .inl rfl⟩
theorem RowA.drew1 {w : World} {a : Option Addr} {ts : List Ac} (h : RowA w a ts) : RowA w.drew a ts := h.later (Below.refl _ _).drew
theorem RowA.drewN {w : World} {a : Option Addr} {ts : List Ac} (h : RowA w a ts) (n : Nat) : RowA (w.drewN n) a ts := h.later (below_drewN (Below.refl _ _) n)
theorem RowA.alloc {w : World} {a : Option Addr} {ts : List Ac} (h : RowA w a ts) (o : Obj) : RowA (w.alloc o) a ts := h.later ((Below.refl _ _).alloc (Nat.le_refl _) _)
theorem RowA.get {w : World} {a : Option Addr} {ts : List Ac} (h : RowA w a ts) (k : Nat) (hk : k < ts.length) :
    ∃ b off : Nat, a = some ⟨b, off, none⟩ ∧ b < w.heap.size ∧ w.cell? ⟨b, off + k * 3, none⟩ = some (.int .i64 ts[k].H) ∧ w.cell? ⟨b, off + k * 3 + 1, none⟩ = some (.int .i64 ts[k].N) ∧ w.cell? ⟨b, off + k * 3 + 2, none⟩ = some (.string ⟨ts[k].T.toArray⟩) ∧ inI ts[k].H ∧ inI ts[k].N ∧ ts[k].T.length ≤ 9223372036854775807 := by
  obtain ⟨_, h2, h3⟩ := h
  rcases h3 with h3 | ⟨b, off, e, hlt, hc⟩
  · rw [h3] at hk; simp at hk
  · exact ⟨b, off, e, hlt, (hc k hk).1, (hc k hk).2.1, (hc k hk).2.2, h2 _ (List.getElem_mem hk)⟩
theorem RowA.far2 {w : World} {a : Option Addr} {ts : List Ac} (h : RowA w a ts) (g i : Nat) (u : Value) (hne : ts = [] ∨ ∀ x, a = some x → x.block ≠ g) : RowA (w.setCell ⟨g, i, none⟩ u) a ts := by
  obtain ⟨h1, h2, h3⟩ := h
  refine ⟨h1, h2, ?_⟩
  rcases h3 with h3 | ⟨b, off, rfl, hlt, hc⟩
  · exact .inl h3
  · rcases hne with hne | hne
    · exact .inl hne
    · have hb : b ≠ g := hne _ rfl
      refine .inr ⟨b, off, rfl, by simpa [World.setCell] using hlt, fun i hi => ?_⟩
      have ne : ∀ x y : Nat, (⟨g, x, none⟩ : Addr) ≠ ⟨b, y, none⟩ := fun x y e => hb (by injection e with e1; exact e1.symm)
      rw [World.cell?_setCell_other _ _ _ _ (ne _ _), World.cell?_setCell_other _ _ _ _ (ne _ _), World.cell?_setCell_other _ _ _ _ (ne _ _)]
      exact hc i hi
/-- A row may be told of by the block in which it lies. -/
theorem RowA.lt {w : World} {a : Option Addr} {ts : List Ac} (h : RowA w a ts) : ts = [] ∨ ∀ x, a = some x → x.block < w.heap.size := by
  rcases h.2.2 with h3 | ⟨b, off, rfl, hlt, _⟩
  · exact .inl h3
  · exact .inr fun x hx => by injection hx with hx; subst hx; exact hlt
theorem Row.lt {w : World} {a : Option Addr} {ts : List Int} (h : Row w a ts) : ts = [] ∨ ∀ x, a = some x → x.block < w.heap.size := by
  rcases h.2.2 with h3 | ⟨b, off, rfl, hlt, _⟩
  · exact .inl h3
  · exact .inr fun x hx => by injection hx with hx; subst hx; exact hlt

/-- The cells of a locus' box, and of an act's. -/
def faBox (f : Fa) (a : Option Addr) (ac : Nat) (d : Option Addr) (dc : Nat) : Array Value := #[.int .i64 f.K, .int .i64 f.At, .int .i64 f.F, .int .i64 f.To, .slice a f.A.length ac, .slice d f.D.length dc]
def acBox (t : Ac) : Array Value := #[.int .i64 t.H, .int .i64 t.N, .string ⟨t.T.toArray⟩]
/-- What a locus' two rows are. -/
def RowsL (w : World) (f : Fa) (a d : Option Addr) : Prop := RowA w a f.A ∧ Row w d f.D
theorem RowsL.later {w w1 : World} {f : Fa} {a d : Option Addr} (h : RowsL w f a d) (hb : Below w.heap.size w w1) : RowsL w1 f a d := ⟨h.1.later hb, h.2.later hb⟩
theorem RowsL.drew1 {w : World} {f : Fa} {a d : Option Addr} (h : RowsL w f a d) : RowsL w.drew f a d := ⟨h.1.drew1, h.2.drew1⟩
theorem RowsL.alloc {w : World} {f : Fa} {a d : Option Addr} (h : RowsL w f a d) (o : Obj) : RowsL (w.alloc o) f a d := ⟨h.1.alloc o, h.2.alloc o⟩
/-- Its numbers are such as a machine holds. -/
def Fa.In (f : Fa) : Prop := inI f.K ∧ inI f.At ∧ inI f.F ∧ inI f.To

end Go.Proofs.YtkflijbhlibadabDoor
/-
  What the frames of the laws over loci use: a locus as the walks are told of it.
-/
namespace Go.Proofs.YtkflijbhlibadabDoor
open Go.ChangeShapes Go.WideShapes Go.ChangeAt Go.RowKit Go.Joins Go.Deep Plait
set_option maxRecDepth 100000
set_option linter.unusedVariables false

end Go.Proofs.YtkflijbhlibadabDoor
/-
  Contracts of package conf, second part: a slot's voters.
-/
namespace Go.Proofs.YtkflijbhlibadabDoor
open Go.RowKit Plait
set_option maxRecDepth 100000
set_option linter.unusedVariables false

/-- The array of marks. -/
def marks (l : List Int) : Array Value := ((List.range 12).map fun i : Nat => Value.bool (l.contains (i : Int))).toArray

theorem marks_at (l : List Int) (k : Nat) (h : k < 12) : (marks l)[k]? = some (.bool (l.contains (k : Int))) := by
  simp [marks, h]

theorem marks_add (l : List Int) (z : Int) (h0 : 0 ≤ z) (h : z < 12) : (marks l).setIfInBounds z.toNat (.bool true) = marks (l ++ [z]) := by
  have hz := marks_at l
  have hs : (marks l).size = 12 := by simp [marks]
  apply Array.ext_getElem?
  intro i
  rw [Array.getElem?_setIfInBounds]
  by_cases hi : i < 12
  · rw [hz i hi, marks_at (l ++ [z]) i hi]
    by_cases e : z.toNat = i
    · have e2 : (i : Int) = z := by omega
      rw [if_pos e, if_pos (by omega)]
      simp [e2]
    · rw [if_neg e]
      have : ((i : Int) = z) = False := by simp; omega
      simp [this]
  · rw [if_neg (by omega)]
    rw [Array.getElem?_eq_none (by omega), Array.getElem?_eq_none (by simp [marks]; omega)]

end Go.Proofs.YtkflijbhlibadabDoor
/-
  Contracts of package conf, third part: Check. It reads the table of bounds, a variable of the package.
-/
namespace Go.Proofs.YtkflijbhlibadabDoor
open Go.RowKit Plait
set_option maxRecDepth 100000
set_option linter.unusedVariables false

/-- The table of bounds lies in memory as the package laid it. -/
def Bnds (w : World) : Prop := ∀ i, i < 8 → w.cell? ⟨0, i, none⟩ = some (.int .i64 ([6, 12, 0, 100, 0, 100, 0, 65535].getD i 0))

theorem block_lt {w : World} {b o : Nat} {v : Value} (h : w.cell? ⟨b, o, none⟩ = some v) : b < w.heap.size := by
  rcases Nat.lt_or_ge b w.heap.size with h' | h'
  · exact h'
  · unfold World.cell? at h
    rw [show w.heap[(⟨b, o, none⟩ : Addr).block]? = none from Array.getElem?_eq_none h'] at h
    simp at h

theorem Bnds.lt {w : World} (h : Bnds w) : 0 < w.heap.size := block_lt (h 0 (by omega))
theorem Bnds.later {w w' : World} (h : Bnds w) (hb : Below w.heap.size w w') : Bnds w' := fun i hi => by rw [hb.cell (p := ⟨0, i, none⟩) h.lt]; exact h i hi

theorem choldsS_any (lo hi n : Int) (w : World) :
    Calls Tryd.prog 56 #[.agg #[.int .i64 lo, .int .i64 hi], .int .i64 n] w fun e w' => e = .returned (.bool (decide (lo ≤ n) && decide (n ≤ hi))) ∧ Below w.heap.size w w' := by
  by_cases h : lo ≤ n
  · have hd : decide (lo ≤ n) = true := by simpa using h
    go_enter Tryd.func56, Tryd.ntmps56
    go_wp2
    go_ret
    exact ⟨ret_bool (by simp [hd]), alloc_below _ _⟩
  · have hd : decide (lo ≤ n) = false := by simpa using h
    go_enter Tryd.func56, Tryd.ntmps56
    go_wp2
    go_ret
    exact ⟨ret_bool (by simp), alloc_below _ _⟩

/-- An array's element, by value. -/
theorem idx4 (v0 v1 v2 v3 : Int) (W : World) : (Instr.index 96 (.agg #[.int .i64 v0, .int .i64 v1, .int .i64 v2, .int .i64 v3]) (.int .i64 0)).run Tryd.prog W = .ok (.int .i64 v0) W
    ∧ (Instr.index 96 (.agg #[.int .i64 v0, .int .i64 v1, .int .i64 v2, .int .i64 v3]) (.int .i64 1)).run Tryd.prog W = .ok (.int .i64 v1) W
    ∧ (Instr.index 96 (.agg #[.int .i64 v0, .int .i64 v1, .int .i64 v2, .int .i64 v3]) (.int .i64 2)).run Tryd.prog W = .ok (.int .i64 v2) W
    ∧ (Instr.index 96 (.agg #[.int .i64 v0, .int .i64 v1, .int .i64 v2, .int .i64 v3]) (.int .i64 3)).run Tryd.prog W = .ok (.int .i64 v3) W := by
  refine ⟨?_, ?_, ?_, ?_⟩ <;> rfl

/-- The loop over the numbers and their bounds. -/
def NumsAtC (bx : Array Value) (c : Cf) (w : World) (i : Value) (w' : World) : Prop :=
  ∃ k : Nat, k ≤ 4 ∧ i = .int .i64 k ∧ Below w.heap.size w w' ∧ Blk w' w.heap.size 24 bx ∧ ((0 < k → 6 ≤ c.N ∧ c.N ≤ 12) ∧ (1 < k → 0 ≤ c.E ∧ c.E ≤ 100) ∧ (2 < k → 0 ≤ c.G ∧ c.G ≤ 100) ∧ (3 < k → 0 ≤ c.F ∧ c.F ≤ 65535))

set_option maxHeartbeats 1600000 in
theorem cnums_any (c : Cf) (a : Option Addr) (cap : Nat) (w : World) (hbd : Bnds w) :
    Calls Tryd.prog 41 #[.agg #[.int .i64 c.N, .int .i64 c.Pi, .int .i64 c.E, .int .i64 c.G, .int .i64 c.F, .slice a c.P.length cap]] w fun e w' => e = .returned (.bool (numsB c)) ∧ Below w.heap.size w w' := by
  have HI := Lib.hid (numsB_iff c)
  have HN := Lib.hid (numsB_not c)
  go_enter Tryd.func41, Tryd.ntmps41
  go_wp2
  go_loopw [14] (fun i w' => NumsAtC (confBox c a cap) c w i w') (fun i _ => 4 - (intOf i).toNat)
  case atStart => exact ⟨0, by omega, rfl, alloc_below _ _, Blk.new _ _ _, by omega, by omega, by omega, by omega⟩
  case round =>
    obtain ⟨k, hk, rfl, hB, hK, ha⟩ := hrel
    have hbr := hbd.later hB
    have HA := Lib.hid ha
    clear ha
    rcases (by omega : k = 0 ∨ k = 1 ∨ k = 2 ∨ k = 3 ∨ k = 4) with rfl | rfl | rfl | rfl | rfl
    · have g0 := hbr 0 (by omega)
      have g1 := hbr 1 (by omega)
      simp at g0 g1
      have hix := (idx4 c.N c.E c.G c.F wr).1
      by_cases hh : 6 ≤ c.N ∧ c.N ≤ 12
      · have hd : (decide (6 ≤ c.N) && decide (c.N ≤ 12)) = true := by simpa using hh
        have HH := Lib.hid hh
        clear hh
        go_wp2_with fail
        refine (choldsS_any 6 12 c.N _).mono ?_
        rintro e wn ⟨rfl, hb⟩
        rw [hd]
        go_wp2
        go_roundw
        case rel =>
          have h1 := HA.out
          have h2 := HH.out
          exact ⟨1, by omega, by go_num, hB.trans (hb.mono hB.size), hK.later hb, by omega, by omega, by omega, by omega⟩
        case measure => simp [intOf]
      · have hd : (decide (6 ≤ c.N) && decide (c.N ≤ 12)) = false := by
          rw [Bool.eq_false_iff]; simpa using hh
        have HF := Lib.hid (HN.out (fun h => hh (by omega)))
        clear hh
        go_wp2_with fail
        refine (choldsS_any 6 12 c.N _).mono ?_
        rintro e wn ⟨rfl, hb⟩
        rw [hd]
        go_wp2
        go_ret
        exact ⟨ret_bool HF.out.symm, hB.trans (hb.mono hB.size)⟩
    · have g0 := hbr 2 (by omega)
      have g1 := hbr 3 (by omega)
      simp at g0 g1
      have hix := (idx4 c.N c.E c.G c.F wr).2.1
      by_cases hh : 0 ≤ c.E ∧ c.E ≤ 100
      · have hd : (decide (0 ≤ c.E) && decide (c.E ≤ 100)) = true := by simpa using hh
        have HH := Lib.hid hh
        clear hh
        go_wp2_with fail
        refine (choldsS_any 0 100 c.E _).mono ?_
        rintro e wn ⟨rfl, hb⟩
        rw [hd]
        go_wp2
        go_roundw
        case rel =>
          have h1 := HA.out
          have h2 := HH.out
          exact ⟨2, by omega, by go_num, hB.trans (hb.mono hB.size), hK.later hb, by omega, by omega, by omega, by omega⟩
        case measure => simp [intOf]
      · have hd : (decide (0 ≤ c.E) && decide (c.E ≤ 100)) = false := by
          rw [Bool.eq_false_iff]; simpa using hh
        have HF := Lib.hid (HN.out (fun h => hh (by omega)))
        clear hh
        go_wp2_with fail
        refine (choldsS_any 0 100 c.E _).mono ?_
        rintro e wn ⟨rfl, hb⟩
        rw [hd]
        go_wp2
        go_ret
        exact ⟨ret_bool HF.out.symm, hB.trans (hb.mono hB.size)⟩
    · have g0 := hbr 4 (by omega)
      have g1 := hbr 5 (by omega)
      simp at g0 g1
      have hix := (idx4 c.N c.E c.G c.F wr).2.2.1
      by_cases hh : 0 ≤ c.G ∧ c.G ≤ 100
      · have hd : (decide (0 ≤ c.G) && decide (c.G ≤ 100)) = true := by simpa using hh
        have HH := Lib.hid hh
        clear hh
        go_wp2_with fail
        refine (choldsS_any 0 100 c.G _).mono ?_
        rintro e wn ⟨rfl, hb⟩
        rw [hd]
        go_wp2
        go_roundw
        case rel =>
          have h1 := HA.out
          have h2 := HH.out
          exact ⟨3, by omega, by go_num, hB.trans (hb.mono hB.size), hK.later hb, by omega, by omega, by omega, by omega⟩
        case measure => simp [intOf]
      · have hd : (decide (0 ≤ c.G) && decide (c.G ≤ 100)) = false := by
          rw [Bool.eq_false_iff]; simpa using hh
        have HF := Lib.hid (HN.out (fun h => hh (by omega)))
        clear hh
        go_wp2_with fail
        refine (choldsS_any 0 100 c.G _).mono ?_
        rintro e wn ⟨rfl, hb⟩
        rw [hd]
        go_wp2
        go_ret
        exact ⟨ret_bool HF.out.symm, hB.trans (hb.mono hB.size)⟩
    · have g0 := hbr 6 (by omega)
      have g1 := hbr 7 (by omega)
      simp at g0 g1
      have hix := (idx4 c.N c.E c.G c.F wr).2.2.2
      by_cases hh : 0 ≤ c.F ∧ c.F ≤ 65535
      · have hd : (decide (0 ≤ c.F) && decide (c.F ≤ 65535)) = true := by simpa using hh
        have HH := Lib.hid hh
        clear hh
        go_wp2_with fail
        refine (choldsS_any 0 65535 c.F _).mono ?_
        rintro e wn ⟨rfl, hb⟩
        rw [hd]
        go_wp2
        go_roundw
        case rel =>
          have h1 := HA.out
          have h2 := HH.out
          exact ⟨4, by omega, by go_num, hB.trans (hb.mono hB.size), hK.later hb, by omega, by omega, by omega, by omega⟩
        case measure => simp [intOf]
      · have hd : (decide (0 ≤ c.F) && decide (c.F ≤ 65535)) = false := by
          rw [Bool.eq_false_iff]; simpa using hh
        have HF := Lib.hid (HN.out (fun h => hh (by omega)))
        clear hh
        go_wp2_with fail
        refine (choldsS_any 0 65535 c.F _).mono ?_
        rintro e wn ⟨rfl, hb⟩
        rw [hd]
        go_wp2
        go_ret
        exact ⟨ret_bool HF.out.symm, hB.trans (hb.mono hB.size)⟩
    · obtain ⟨a0, a1, a2, a3⟩ := HA.out
      have b0 := a0 (by omega)
      have b1 := a1 (by omega)
      have b2 := a2 (by omega)
      have b3 := a3 (by omega)
      clear a0 a1 a2 a3
      obtain ⟨b1a, b1b⟩ := b1
      obtain ⟨b2a, b2b⟩ := b2
      have HF := Lib.hid (show (decide (4 * (c.E + c.G + 1) ≤ c.Pi) && decide (c.Pi ≤ 10000)) = numsB c by
        rw [Bool.eq_iff_iff, HI.out]; simp; omega)
      clear b0 b3
      have hQ := hK.at
      unfold confBox at hQ
      go_wp2_with fail
      refine (choldsS_any (4 * (c.E + c.G + 1)) 10000 c.Pi _).mono ?_
      rintro e wn ⟨rfl, hb⟩
      go_wp2
      go_ret
      exact ⟨ret_bool HF.out, hB.trans (hb.mono hB.size)⟩

/-- The loop over the pairs. -/
def PairsAt (bx : Array Value) (c : Cf) (w : World) (i : Value) (w' : World) : Prop :=
  ∃ k : Nat, k ≤ c.P.length ∧ i = .int .i64 k ∧ Below w.heap.size w w' ∧ Blk w' w.heap.size 24 bx ∧ ∀ z ∈ c.P.take k, pairB c z = true

set_option maxHeartbeats 1600000 in
theorem cpairs_any (c : Cf) (a : Option Addr) (cap : Nat) (w : World) (hn : 0 ≤ c.N) (hrow : Row w a c.P) :
    Calls Tryd.prog 42 #[.agg #[.int .i64 c.N, .int .i64 c.Pi, .int .i64 c.E, .int .i64 c.G, .int .i64 c.F, .slice a c.P.length cap]] w fun e w' => e = .returned (.bool (pairsB c)) ∧ Below w.heap.size w w' := by
  have hlen := hrow.1
  go_enter Tryd.func42, Tryd.ntmps42
  go_wp2
  go_loopw [8] (fun i w' => PairsAt (confBox c a cap) c w i w') (fun i _ => c.P.length - (intOf i).toNat)
  case atStart => exact ⟨0, Nat.zero_le _, rfl, alloc_below _ _, Blk.new _ _ _, by simp⟩
  case round =>
    obtain ⟨k, hk, rfl, hB, hK, ha⟩ := hrel
    have HA := Lib.hid ha
    clear ha
    by_cases hlt : k < c.P.length
    · have d1 : decide (k < c.P.length) = true := by simpa using hlt
      have HT := Lib.hid (show c.P.take (k + 1) = c.P.take k ++ [c.P[k]] from List.take_succ_eq_append_getElem hlt)
      obtain ⟨b, off, rfl, hbl, hcell, hz1, hz2⟩ := (hrow.later hB).get k hlt
      have hQ := hK.at
      unfold confBox at hQ
      have HNo := Lib.hid (pairsB_no c k hlt)
      generalize c.P[k] = z at *
      by_cases hz : z = -1
      · have d2 : (z != -1) = false := by simp [hz]
        have HP := Lib.hid (show pairB c z = true by rw [hz]; simp [pairB]; omega)
        clear hz
        go_wp2
        go_roundw
        case rel =>
          refine ⟨k + 1, by omega, by go_num, hB, hK, ?_⟩
          rw [HT.out]
          intro y hy
          rcases List.mem_append.1 hy with hy | hy
          · exact HA.out y hy
          · simp at hy; rw [hy]; exact HP.out
        case measure => simp [intOf]; omega
      · have d2 : (z != -1) = true := by simp [hz]
        have HE := Lib.hid (pairB_node c z hz)
        clear hz
        cases hnd : nodeB c z
        · have HD := Lib.hid hnd
          have HF := Lib.hid (HNo.out (by rw [HE.out]; exact hnd))
          clear hnd
          go_wp2_with fail
          refine (cisNode_any c _ cap z _).mono ?_
          rintro e wn ⟨rfl, hb⟩
          clear hQ
          obtain ⟨hB, hK, hZ⟩ := boxed_on hB hK hb
          have hQ := hK.at
          clear hb
          rw [HD.out]
          go_wp2
          go_ret
          exact ⟨ret_bool HF.out.symm, hB⟩
        · have HD := Lib.hid hnd
          clear hnd
          go_wp2_with fail
          refine (cisNode_any c _ cap z _).mono ?_
          rintro e wn ⟨rfl, hb⟩
          clear hQ
          obtain ⟨hB, hK, hZ⟩ := boxed_on hB hK hb
          have hQ := hK.at
          clear hb
          rw [HD.out]
          go_wp2
          go_roundw
          case rel =>
            refine ⟨k + 1, by omega, by go_num, hB, hK, ?_⟩
            rw [HT.out]
            intro y hy
            rcases List.mem_append.1 hy with hy | hy
            · exact HA.out y hy
            · simp at hy; rw [hy, HE.out]; exact HD.out
          case measure => simp [intOf]; omega
    · have d1 : decide (k < c.P.length) = false := by simpa using hlt
      have HF := Lib.hid (pairsB_yes c k hlt HA.out)
      go_wp2
      go_ret
      exact ⟨ret_bool HF.out.symm, hB⟩

set_option maxHeartbeats 800000 in
theorem ccheck_any (c : Cf) (a : Option Addr) (cap : Nat) (w : World) (hbd : Bnds w) (hrow : Row w a c.P) :
    Calls Tryd.prog 31 #[.agg #[.int .i64 c.N, .int .i64 c.Pi, .int .i64 c.E, .int .i64 c.G, .int .i64 c.F, .slice a c.P.length cap]] w fun e w' => e = .returned (.int .i64 (checkI c)) ∧ Below w.heap.size w w' := by
  have hlen := hrow.1
  cases hn : numsB c
  · have HF := Lib.hid (checkI_nums c hn)
    have HN := Lib.hid hn
    clear hn
    go_enter Tryd.func31, Tryd.ntmps31
    go_wp2_with fail
    refine (cnums_any c a cap _ (hbd.later (alloc_below _ _))).mono ?_
    rintro e wn ⟨rfl, hb⟩
    obtain ⟨hB, hK, hZ⟩ := boxed hb
    have hQ := hK.at
    clear hb
    rw [HN.out]
    go_wp2
    go_ret
    exact ⟨ret_int HF.out.symm, hB⟩
  · have hb := (numsB_iff c).1 hn
    have hN : 0 ≤ c.N := by omega
    have HN := Lib.hid hn
    clear hb
    by_cases hl : 3 < c.P.length
    · have HF := Lib.hid (checkI_long c hn hl)
      have d : decide ((3 : Int) < (c.P.length : Int)) = true := by simp; omega
      clear hn
      go_enter Tryd.func31, Tryd.ntmps31
      go_wp2_with fail
      refine (cnums_any c a cap _ (hbd.later (alloc_below _ _))).mono ?_
      rintro e wn ⟨rfl, hb⟩
      obtain ⟨hB, hK, hZ⟩ := boxed hb
      have hQ := hK.at
      clear hb
      rw [HN.out]
      go_wp2
      go_ret
      exact ⟨ret_int HF.out.symm, hB⟩
    · have HF := Lib.hid (checkI_pairs c hn (by omega))
      have d : decide ((3 : Int) < (c.P.length : Int)) = false := by simp; omega
      clear hn
      cases hp : pairsB c
      · have HP := Lib.hid hp
        clear hp
        go_enter Tryd.func31, Tryd.ntmps31
        go_wp2_with fail
        refine (cnums_any c a cap _ (hbd.later (alloc_below _ _))).mono ?_
        rintro e wn ⟨rfl, hb⟩
        obtain ⟨hB, hK, hZ⟩ := boxed hb
        have hQ := hK.at
        clear hb
        rw [HN.out]
        go_wp2_with fail
        refine (cpairs_any c a cap _ hN (hrow.later hB)).mono ?_
        rintro e wn ⟨rfl, hb⟩
        clear hQ
        obtain ⟨hB, hK, hZ⟩ := boxed_on hB hK hb
        have hQ := hK.at
        clear hb
        rw [HP.out]
        go_wp2
        go_ret
        exact ⟨ret_int (by rw [HF.out, HP.out]; rfl), hB⟩
      · have HP := Lib.hid hp
        clear hp
        go_enter Tryd.func31, Tryd.ntmps31
        go_wp2_with fail
        refine (cnums_any c a cap _ (hbd.later (alloc_below _ _))).mono ?_
        rintro e wn ⟨rfl, hb⟩
        obtain ⟨hB, hK, hZ⟩ := boxed hb
        have hQ := hK.at
        clear hb
        rw [HN.out]
        go_wp2_with fail
        refine (cpairs_any c a cap _ hN (hrow.later hB)).mono ?_
        rintro e wn ⟨rfl, hb⟩
        clear hQ
        obtain ⟨hB, hK, hZ⟩ := boxed_on hB hK hb
        have hQ := hK.at
        clear hb
        rw [HP.out]
        go_wp2
        go_ret
        exact ⟨ret_int (by rw [HF.out, HP.out]; rfl), hB⟩

end Go.Proofs.YtkflijbhlibadabDoor

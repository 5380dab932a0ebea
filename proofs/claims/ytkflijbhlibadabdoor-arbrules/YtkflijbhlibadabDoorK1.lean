/-
  What all walks use: small endings, slices of whole numbers as they lie in memory, rows that a call made itself.
-/
import Derived.Test.YtkflijbhlibadabDoorChecked
import Derived.WalkKit
import Derived.WalkSpells
import Derived.WalkLawsBesides
import Derived.Lib.Hide
import Derived.BigQuiet
import Derived.Deep.QuietTactic
import Derived.RegionTactic
import Derived.Deep.RegionHeld3
import Derived.Deep.AppendLies
import Derived.OwnWalk
import Derived.Laws.MakeOwn
import Derived.Deep.DeepCutAuto
import Derived.Deep.RegionLaw
import GoSem.Claim
namespace Go.Proofs.YtkflijbhlibadabDoor
open Go.RowKit
set_option maxRecDepth 100000
set_option linter.unusedVariables false

theorem ret_int {k : IntKind} {a b : Int} (h : a = b) : Ending.returned (.int k a) = .returned (.int k b) := by rw [h]
theorem ret_bool {a b : Bool} (h : a = b) : Ending.returned (.bool a) = .returned (.bool b) := by rw [h]

theorem wrap_in (n : Int) (h0 : -9223372036854775808 ≤ n) (h1 : n ≤ 9223372036854775807) : IntKind.i64.wrap n = n := by
  rw [IntKind.wrap_i64]; omega

theorem addr_at (b o j : Nat) : (⟨b, o, none⟩ : Addr).add j = ⟨b, o + j, none⟩ := by
  unfold Addr.add; split <;> simp_all

theorem bcell {W w1 : World} (hb : Below W.heap.size W w1) : (∀ b o, b < W.heap.size → w1.cell? ⟨b, o, none⟩ = W.cell? ⟨b, o, none⟩) ∧ (∀ b o, b < W.heap.size → w1.frozen? ⟨b, o, none⟩ = W.frozen? ⟨b, o, none⟩) :=
  ⟨fun b o h => hb.cell (p := ⟨b, o, none⟩) h, fun b o h => hb.frozen (p := ⟨b, o, none⟩) h⟩

theorem below_drewN {B : Nat} {a w : World} (h : Below B a w) (n : Nat) : Below B a (w.drewN n) := ⟨h.os, h.tape, h.output, h.size, h.block⟩
theorem below_grown {B : Nat} {a w w' : World} {row : Option Nat} (h : Below B a w) (hB : B ≤ w.heap.size) (hg : w.grownBy w' row) (hr : ∀ g, row = some g → B ≤ g) : Below B a w' :=
  ⟨hg.os.trans h.os, hg.tape.trans h.tape, hg.output.trans h.output, Nat.le_trans h.size hg.size, fun i hi => by
    rw [hg.block i (by omega) (fun e => by have := hr i e.symm; omega)]
    exact h.block i hi⟩

theorem alloc_below (w : World) (o : Obj) : Below w.heap.size w (w.alloc o) := (Below.refl _ _).alloc (Nat.le_refl _) _

/-- A block that is known whole. -/
def Blk (w : World) (g : Nat) (t : TypeId) (cs : Array Value) : Prop := w.heap[g]? = some (.cells cs t (0, 0))
theorem Blk.lt {w : World} {g : Nat} {t : TypeId} {cs : Array Value} (h : Blk w g t cs) : g < w.heap.size := by
  rcases Nat.lt_or_ge g w.heap.size with hlt | hge
  · exact hlt
  · unfold Blk at h; rw [Array.getElem?_eq_none hge] at h; cases h
theorem Blk.at {w : World} {g : Nat} {t : TypeId} {cs : Array Value} (h : Blk w g t cs) : ∀ i, w.cell? ⟨g, i, none⟩ = cs[i]? := fun i => cell_of_row w g i cs t (0, 0) h
theorem Blk.frozen {w : World} {g : Nat} {t : TypeId} {cs : Array Value} (h : Blk w g t cs) : ∀ i, w.frozen? ⟨g, i, none⟩ = false := fun i => by
  unfold Blk at h
  simp [World.frozen?, h]
theorem Blk.new (w : World) (t : TypeId) (cs : Array Value) : Blk (w.alloc (.cells cs t)) w.heap.size t cs := heap_alloc_new w _
theorem Blk.newAt {w : World} {g : Nat} (t : TypeId) (cs : Array Value) (h : w.heap.size = g) : Blk (w.alloc (.cells cs t)) g t cs := by subst h; exact heap_alloc_new w _
theorem Blk.drew1 {w : World} {g : Nat} {t : TypeId} {cs : Array Value} (h : Blk w g t cs) : Blk w.drew g t cs := h
theorem Blk.drewN {w : World} {g : Nat} {t : TypeId} {cs : Array Value} (h : Blk w g t cs) (n : Nat) : Blk (w.drewN n) g t cs := h
theorem Blk.alloc {w : World} {g : Nat} {t : TypeId} {cs : Array Value} (h : Blk w g t cs) (o : Obj) : Blk (w.alloc o) g t cs := (Below.heap_alloc w o g h.lt).trans h
theorem Blk.set {w : World} {g : Nat} {t : TypeId} {cs : Array Value} (h : Blk w g t cs) (i : Nat) (u : Value) : Blk (w.setCell ⟨g, i, none⟩ u) g t (cs.setIfInBounds i u) := by
  unfold Blk at h ⊢
  simp [World.setCell, Array.getElem?_modify, h]
theorem Blk.far {w : World} {g : Nat} {t : TypeId} {cs : Array Value} (h : Blk w g t cs) {p : Addr} (hp : g ≠ p.block) (u : Value) : Blk (w.setCell p u) g t cs := (Below.heap_setCell w p u g hp).trans h
theorem Blk.below {B : Nat} {w w' : World} {g : Nat} {t : TypeId} {cs : Array Value} (h : Blk w g t cs) (hb : Below B w w') (hg : g < B) : Blk w' g t cs := (hb.block g hg).trans h
theorem Blk.later {w w' : World} {g : Nat} {t : TypeId} {cs : Array Value} (h : Blk w g t cs) (hb : Below w.heap.size w w') : Blk w' g t cs := h.below hb h.lt
theorem Blk.grown {w w' : World} {g : Nat} {t : TypeId} {cs : Array Value} {row : Option Nat} (h : Blk w g t cs) (hb : w.grownBy w' row) (hg : some g ≠ row) : Blk w' g t cs := (hb.block g h.lt hg).trans h

/-- Behind the first call of a body whose parameter was boxed. -/
theorem boxed {w wn : World} {cs : Array Value} {t : TypeId} (hb : Below (w.alloc (.cells cs t)).heap.size (w.alloc (.cells cs t)) wn) : Below w.heap.size w wn ∧ Blk wn w.heap.size t cs ∧ w.heap.size < wn.heap.size :=
  ⟨(alloc_below w _).trans (hb.mono (alloc_below w _).size), (Blk.new w t cs).later hb, ((Blk.new w t cs).later hb).lt⟩
/-- Behind each next one. -/
theorem boxed_on {w wn wm : World} {cs : Array Value} {t : TypeId} (hB : Below w.heap.size w wn) (hK : Blk wn w.heap.size t cs) (hb : Below wn.heap.size wn wm) : Below w.heap.size w wm ∧ Blk wm w.heap.size t cs ∧ w.heap.size < wm.heap.size :=
  ⟨hB.trans (hb.mono hB.size), hK.later hb, (hK.later hb).lt⟩

/-- A store elsewhere, and a draw, leave a cell. -/
theorem keep_set {w : World} {p q : Addr} {x v : Value} (h : w.cell? q = some v) (hne : p ≠ q) : (w.setCell p x).drew.cell? q = some v := (World.cell?_setCell_other w p q x hne).trans h

/-- A slice of whole numbers as it lies in memory: its elements. -/
def Row (w : World) (a : Option Addr) (zs : List Int) : Prop :=
  zs.length ≤ 9223372036854775807 ∧ (∀ z ∈ zs, -9223372036854775808 ≤ z ∧ z ≤ 9223372036854775807) ∧
  (zs = [] ∨ ∃ b off : Nat, a = some ⟨b, off, none⟩ ∧ b < w.heap.size ∧ ∀ i (h : i < zs.length), w.cell? ⟨b, off + i, none⟩ = some (.int .i64 zs[i]))

theorem Row.later {w w1 : World} {a : Option Addr} {zs : List Int} (h : Row w a zs) (hb : Below w.heap.size w w1) : Row w1 a zs := by
  obtain ⟨h1, h2, h3⟩ := h
  refine ⟨h1, h2, ?_⟩
  rcases h3 with h3 | ⟨b, off, e, hlt, hc⟩
  · exact .inl h3
  · exact .inr ⟨b, off, e, Nat.lt_of_lt_of_le hlt hb.size, fun i hi => by rw [hb.cell (p := ⟨b, off + i, none⟩) hlt]; exact hc i hi⟩

theorem Row.empty (w : World) (a : Option Addr) : Row w a [] := ⟨by simp, by simp, .inl rfl⟩
theorem Row.drew1 {w : World} {a : Option Addr} {zs : List Int} (h : Row w a zs) : Row w.drew a zs := h.later (Below.refl _ _).drew
theorem Row.drewN {w : World} {a : Option Addr} {zs : List Int} (h : Row w a zs) (n : Nat) : Row (w.drewN n) a zs := h.later (below_drewN (Below.refl _ _) n)
theorem Row.alloc {w : World} {a : Option Addr} {zs : List Int} (h : Row w a zs) (o : Obj) : Row (w.alloc o) a zs := h.later ((Below.refl _ _).alloc (Nat.le_refl _) _)

/-- The k-th element, where it lies. -/
theorem Row.get {w : World} {a : Option Addr} {zs : List Int} (h : Row w a zs) (k : Nat) (hk : k < zs.length) :
    ∃ b off : Nat, a = some ⟨b, off, none⟩ ∧ b < w.heap.size ∧ w.cell? ⟨b, off + k, none⟩ = some (.int .i64 zs[k]) ∧ -9223372036854775808 ≤ zs[k] ∧ zs[k] ≤ 9223372036854775807 := by
  obtain ⟨_, h2, h3⟩ := h
  rcases h3 with h3 | ⟨b, off, e, hlt, hc⟩
  · rw [h3] at hk; simp at hk
  · exact ⟨b, off, e, hlt, hc k hk, (h2 _ (List.getElem_mem hk)).1, (h2 _ (List.getElem_mem hk)).2⟩

/-- A new row. -/
theorem Row.made (w : World) (zs : List Int) (t : TypeId) (hl : zs.length ≤ 9223372036854775807) (hz : ∀ z ∈ zs, -9223372036854775808 ≤ z ∧ z ≤ 9223372036854775807) :
    Row (w.alloc (.cells (zs.map (Value.int .i64)).toArray t)) (some ⟨w.heap.size, 0, none⟩) zs := by
  refine ⟨hl, hz, .inr ⟨w.heap.size, 0, rfl, by simp, fun i hi => ?_⟩⟩
  have h := cell_of_row (w.alloc (.cells (zs.map (Value.int .i64)).toArray t)) w.heap.size (0 + i) _ t (0, 0) (heap_alloc_new w _)
  rw [h]
  simp [hi]

/-- What a call answers that makes a row. -/
def RowRet (zs : List Int) (w : World) (e : Ending) (w' : World) : Prop :=
  ∃ (a : Option Addr) (cap : Nat), e = .returned (.slice a zs.length cap) ∧ Row w' a zs ∧ (∀ x, a = some x → w.heap.size ≤ x.block) ∧ Below w.heap.size w w'

theorem Row.far {w : World} {a : Option Addr} {zs : List Int} (h : Row w a zs) (g i : Nat) (u : Value) (hne : ∀ x, a = some x → x.block ≠ g) : Row (w.setCell ⟨g, i, none⟩ u) a zs := by
  obtain ⟨h1, h2, h3⟩ := h
  refine ⟨h1, h2, ?_⟩
  rcases h3 with h3 | ⟨b, off, rfl, hlt, hc⟩
  · exact .inl h3
  · have hb : b ≠ g := hne _ rfl
    exact .inr ⟨b, off, rfl, by simpa [World.setCell] using hlt, fun i hi => by rw [World.cell?_setCell_other _ _ _ _ (fun e => hb (by injection e with e1; exact e1.symm))]; exact hc i hi⟩

/-- A row of whole numbers that the call made itself. -/
def OwnI (base : Nat) (w : World) (v : Value) (zs : List Int) : Prop := w.ownsRow base 3 1 v zs.length (zs.map (Value.int .i64))

theorem OwnI.nil (base : Nat) (w : World) : OwnI base w (.slice none 0 0) [] := World.ownsRow_nil w base _ 1

theorem OwnI.form {base : Nat} {w : World} {v : Value} {zs : List Int} (h : OwnI base w v zs) : ∃ a cap, v = .slice a zs.length cap := by
  rcases h.2 with ⟨hv, h0⟩ | ⟨g, cap, cur, hv, _⟩
  · exact ⟨none, 0, by rw [hv, h0]⟩
  · exact ⟨_, _, hv⟩

theorem OwnI.row {base : Nat} {w : World} {a : Option Addr} {n cap : Nat} {zs : List Int} (h : OwnI base w (.slice a n cap) zs) (hl : zs.length ≤ 9223372036854775807) (hz : ∀ z ∈ zs, -9223372036854775808 ≤ z ∧ z ≤ 9223372036854775807) : Row w a zs := by
  refine ⟨hl, hz, ?_⟩
  rcases Nat.eq_zero_or_pos zs.length with h0 | h0
  · exact .inl (List.eq_nil_of_length_eq_zero h0)
  · obtain ⟨g, cap', hv, _, hlt⟩ := World.ownsRow.form h h0
    have hA : a = some ⟨g, 0, none⟩ := by injection hv
    subst hA
    refine .inr ⟨g, 0, rfl, hlt, fun i hi => ?_⟩
    have hc := World.ownsRow.cells h (g := g) rfl i (.int .i64 zs[i]) (by simp [hi])
    rw [addr_at] at hc
    exact hc

theorem OwnI.lt {base : Nat} {w : World} {v : Value} {zs : List Int} (h : OwnI base w v zs) : ∀ k, v.ownBlock = some k → base ≤ k ∧ k < w.heap.size := World.ownsRow.lt h
theorem OwnI.later {base : Nat} {w w' : World} {v : Value} {zs : List Int} (h : OwnI base w v zs) (hb : Below w.heap.size w w') : OwnI base w' v zs := by
  refine World.ownsRow.kept (row := none) h ⟨hb.os, hb.tape, hb.output, hb.size, fun k hk _ => hb.block k hk⟩ ?_
  cases hv : v.ownBlock
  · exact .inl rfl
  · exact .inr (by simp)

theorem OwnI.far {base : Nat} {w : World} {v : Value} {zs : List Int} (h : OwnI base w v zs) (p : Addr) (u : Value) (hp : p.block < base) : OwnI base (w.setCell p u) v zs := by
  refine World.ownsRow.kept (row := some p.block) h ⟨rfl, rfl, rfl, by simp [World.setCell], fun k hk hne => Below.heap_setCell w p u k (fun e => hne (by rw [e]))⟩ ?_
  cases hv : v.ownBlock with
  | none => exact .inl rfl
  | some g =>
    refine .inr (fun e => ?_)
    have := (h.lt g hv).1
    injection e with e
    omega

theorem infoInt : (Tryd.prog.info? 3).map (fun i => (i.zero, i.size, i.bytes)) = some (some (.int .i64 0), 1, 8) := by kernel_rfl

/-- One number behind a row that the call made itself, at a plain region's list. -/
theorem wpList_app1 {ops : Array Oper} {rest : List Oper} {o : Oper} {a : Act} {Q : Exit → Act → World → Prop} (w : World) (hgd : o.guard = none) (s x : Operand)
    (ho : o.op = .call { callee := .builtin .append, args := #[s, x], argTypes := #[22, 22] })
    (base : Nat) (v : Value) (zs : List Int) (hs : a.eval s = v) (hown : OwnI base w v zs) (H c : Nat) (z : Int) (hx : a.eval x = .slice (some ⟨H, 0, none⟩) 1 c)
    (hH : w.heap[H]? = some (.cells #[.int .i64 z] 3 (0, 0))) (hlen : zs.length ≤ 1000000) (hbase : base ≤ w.heap.size)
    (h : ∀ g cap w', OwnI base w' (.slice (some ⟨g, 0, none⟩) (zs.length + 1) cap) (zs ++ [z]) → w.grownBy w' v.ownBlock → (v.ownBlock = some g ∨ g = w.heap.size) → g < w'.heap.size →
      wpList Tryd.prog ops Q rest (a.put o.dst (.slice (some ⟨g, 0, none⟩) (zs.length + 1) cap)) w') : wpList Tryd.prog ops Q (o :: rest) a w := by
  obtain ⟨i, hi, hz0, hz1, hz2⟩ := info_parts infoInt
  refine wpList_append_lies w hgd s x _ ho base 3 i (.int .i64 0) 1 8 Tryd.underlying22 hi hz0 hz1 hz2 rfl (by omega) v zs.length _ hs hown ⟨H, 0, none⟩ 1 c [.int .i64 z] hx rfl
    (World.news_of_block hH) (by simp [Value.oneCell']) (by omega) (by unfold maxLen; omega) (by omega) hbase _ rfl ?_
  intro g cap w' h1 h2 h3 h4
  refine h g cap w' ?_ h2 h3 h4
  unfold OwnI
  rw [List.length_append, List.map_append]
  exact h1

/-- The same, at a step of a region that draws its order. -/
theorem step_app1 {ops : Array Oper} {o : Oper} {a : Act} {K : Act → World → Prop} {Q : Exit → Act → World → Prop} {E : Prop} (w : World) (hgd : o.guard = none) (s x : Operand)
    (ho : o.op = .call { callee := .builtin .append, args := #[s, x], argTypes := #[22, 22] })
    (base : Nat) (v : Value) (zs : List Int) (hs : a.eval s = v) (hown : OwnI base w v zs) (H c : Nat) (z : Int) (hx : a.eval x = .slice (some ⟨H, 0, none⟩) 1 c)
    (hH : w.heap[H]? = some (.cells #[.int .i64 z] 3 (0, 0))) (hlen : zs.length ≤ 1000000) (hbase : base ≤ w.heap.size)
    (h : ∀ g cap w', OwnI base w' (.slice (some ⟨g, 0, none⟩) (zs.length + 1) cap) (zs ++ [z]) → w.grownBy w' v.ownBlock → (v.ownBlock = some g ∨ g = w.heap.size) → g < w'.heap.size →
      K (a.put o.dst (.slice (some ⟨g, 0, none⟩) (zs.length + 1) cap)) w') : if Region.wanted o (yielded ops a.tmps) = true then Oper.wp Tryd.prog o a w K Q else E := by
  obtain ⟨i, hi, hz0, hz1, hz2⟩ := info_parts infoInt
  refine step_append_lies w hgd s x _ ho base 3 i (.int .i64 0) 1 8 Tryd.underlying22 hi hz0 hz1 hz2 rfl (by omega) v zs.length _ hs hown ⟨H, 0, none⟩ 1 c [.int .i64 z] hx rfl
    (World.news_of_block hH) (by simp [Value.oneCell']) (by omega) (by unfold maxLen; omega) (by omega) hbase _ rfl ?_
  intro g cap w' h1 h2 h3 h4
  refine h g cap w' ?_ h2 h3 h4
  unfold OwnI
  rw [List.length_append, List.map_append]
  exact h1

/-- Behind a drawn region. -/
theorem from_drew {w wl : World} (hb : Below w.drew.heap.size w.drew wl) : Below w.heap.size w wl := (Below.refl _ w).drew.trans hb
theorem undef_fold : (Value.tuple #[] : Value) = undef := rfl

end Go.Proofs.YtkflijbhlibadabDoor
/-
  Plain mathematics of configurations, with no program in it: what is allowed, who owns a slot, who votes.
-/
namespace Plait

structure Cf where
  N : Int
  Pi : Int
  E : Int
  G : Int
  F : Int
  P : List Int

/-- All numbers are such as a machine holds. -/
def inI (x : Int) : Prop := -9223372036854775808 ≤ x ∧ x ≤ 9223372036854775807

def numsB (c : Cf) : Bool :=
  decide (6 ≤ c.N) && decide (c.N ≤ 12) && decide (0 ≤ c.E) && decide (c.E ≤ 100) && decide (0 ≤ c.G) && decide (c.G ≤ 100) && decide (0 ≤ c.F) && decide (c.F ≤ 65535) && decide (4 * (c.E + c.G + 1) ≤ c.Pi) && decide (c.Pi ≤ 10000)

theorem numsB_iff (c : Cf) : numsB c = true ↔ 6 ≤ c.N ∧ c.N ≤ 12 ∧ 0 ≤ c.E ∧ c.E ≤ 100 ∧ 0 ≤ c.G ∧ c.G ≤ 100 ∧ 0 ≤ c.F ∧ c.F ≤ 65535 ∧ 4 * (c.E + c.G + 1) ≤ c.Pi ∧ c.Pi ≤ 10000 := by
  simp [numsB]; omega

theorem numsB_not (c : Cf) (h : ¬ (6 ≤ c.N ∧ c.N ≤ 12 ∧ 0 ≤ c.E ∧ c.E ≤ 100 ∧ 0 ≤ c.G ∧ c.G ≤ 100 ∧ 0 ≤ c.F ∧ c.F ≤ 65535 ∧ 4 * (c.E + c.G + 1) ≤ c.Pi ∧ c.Pi ≤ 10000)) : numsB c = false := by
  rw [Bool.eq_false_iff]; intro e; exact h ((numsB_iff c).1 e)

/-- A number that stands among pairs. -/
def pairB (c : Cf) (a : Int) : Bool := decide (-1 ≤ a) && decide (a < c.N)

def pairsB (c : Cf) : Bool := c.P.all (pairB c)

def checkI (c : Cf) : Int := if numsB c then if c.P.length ≤ 3 then if pairsB c then 0 else 1 else 2 else 1

theorem checkI_nums (c : Cf) (h : numsB c = false) : checkI c = 1 := by simp [checkI, h]
theorem checkI_long (c : Cf) (h : numsB c = true) (hl : 3 < c.P.length) : checkI c = 2 := by
  simp [checkI, h]; omega
theorem checkI_pairs (c : Cf) (h : numsB c = true) (hl : c.P.length ≤ 3) : checkI c = if pairsB c then 0 else 1 := by simp [checkI, h, hl]

/-- A network that may be. -/
structure Cf.Ok (c : Cf) : Prop where
  n6 : 6 ≤ c.N
  n12 : c.N ≤ 12
  e0 : 0 ≤ c.E
  e1 : c.E ≤ 100
  g0 : 0 ≤ c.G
  g1 : c.G ≤ 100
  f0 : 0 ≤ c.F
  f1 : c.F ≤ 65535
  p0 : 4 * (c.E + c.G + 1) ≤ c.Pi
  p1 : c.Pi ≤ 10000
  len : c.P.length ≤ 3
  all : ∀ a ∈ c.P, -1 ≤ a ∧ a < c.N

theorem Cf.Ok.nums {c : Cf} (h : c.Ok) : numsB c = true := (numsB_iff c).2 ⟨h.n6, h.n12, h.e0, h.e1, h.g0, h.g1, h.f0, h.f1, h.p0, h.p1⟩
theorem Cf.Ok.check {c : Cf} (h : c.Ok) : checkI c = 0 := by
  have hp : pairsB c = true := by
    unfold pairsB
    rw [List.all_eq_true]
    intro a ha
    have := h.all a ha
    simp [pairB]; omega
  simp [checkI, h.nums, h.len, hp]

def nodeB (c : Cf) (s : Int) : Bool := decide (0 ≤ s) && decide (s < c.N)

/-- The first node of a pair slot; of any other slot -1. -/
def pairAt (c : Cf) (s : Int) : Int := if c.N ≤ s ∧ s < c.N + c.P.length then c.P.getD (s - c.N).toNat (-1) else -1

def owners (c : Cf) (s : Int) : List Int := if nodeB c s then [s] else if nodeB c (pairAt c s) then [pairAt c s, (pairAt c s + 1) % c.N] else []

theorem nodeB_iff (c : Cf) (s : Int) : nodeB c s = true ↔ 0 ≤ s ∧ s < c.N := by simp [nodeB]
theorem nodeB_no (c : Cf) (s : Int) (h : ¬ (0 ≤ s ∧ s < c.N)) : nodeB c s = false := by rw [Bool.eq_false_iff]; intro e; exact h ((nodeB_iff c s).1 e)

theorem owners_node (c : Cf) (s : Int) (h : nodeB c s = true) : owners c s = [s] := by simp [owners, h]
theorem owners_pair (c : Cf) (s : Int) (h : nodeB c s = false) (h2 : nodeB c (pairAt c s) = true) : owners c s = [pairAt c s, (pairAt c s + 1) % c.N] := by simp [owners, h, h2]
theorem owners_none (c : Cf) (s : Int) (h : nodeB c s = false) (h2 : nodeB c (pairAt c s) = false) : owners c s = [] := by simp [owners, h, h2]

theorem pairAt_in (c : Cf) (k : Nat) (h : k < c.P.length) : pairAt c (c.N + k) = c.P[k] := by
  unfold pairAt
  rw [if_pos (by omega), show (c.N + (k : Int) - c.N).toNat = k by omega, List.getD_eq_getElem?_getD, List.getElem?_eq_getElem h]
  rfl
theorem pairAt_out (c : Cf) (s : Int) (h : ∀ k : Nat, k < c.P.length → s ≠ c.N + k) : pairAt c s = -1 := by
  unfold pairAt
  rw [if_neg]
  intro ⟨h1, h2⟩
  exact h (s - c.N).toNat (by omega) (by omega)

theorem owners_in (c : Cf) (hc : c.Ok) (s : Int) : ∀ a ∈ owners c s, 0 ≤ a ∧ a < c.N := by
  intro a ha
  have h6 := hc.n6
  by_cases h : nodeB c s = true
  · rw [owners_node c s h] at ha
    have := (nodeB_iff c s).1 h
    simp at ha; rw [ha]; exact this
  · rw [Bool.not_eq_true] at h
    by_cases h2 : nodeB c (pairAt c s) = true
    · rw [owners_pair c s h h2] at ha
      have := (nodeB_iff c _).1 h2
      simp at ha
      rcases ha with rfl | rfl
      · exact this
      · exact ⟨Int.emod_nonneg _ (by omega), Int.emod_lt_of_pos _ (by omega)⟩
    · rw [Bool.not_eq_true] at h2
      rw [owners_none c s h h2] at ha
      simp at ha

theorem owners_len (c : Cf) (s : Int) : (owners c s).length ≤ 2 := by
  unfold owners; split
  · simp
  · split <;> simp

/-- Is a number among others? -/
def inB (zs : List Int) (x : Int) : Bool := zs.contains x

/-- All nodes below k that are no owners. -/
def votersTo (c : Cf) (s : Int) (k : Nat) : List Int := ((List.range k).map fun i : Nat => (i : Int)).filter fun i => !(owners c s).contains i
def voters (c : Cf) (s : Int) : List Int := votersTo c s c.N.toNat

theorem votersTo_succ (c : Cf) (s : Int) (k : Nat) : votersTo c s (k + 1) = if (owners c s).contains (k : Int) then votersTo c s k else votersTo c s k ++ [(k : Int)] := by
  unfold votersTo
  rw [List.range_succ, List.map_append, List.filter_append]
  simp only [List.map_cons, List.map_nil, List.filter_cons, List.filter_nil]
  cases (owners c s).contains (k : Int) <;> simp

theorem votersTo_len (c : Cf) (s : Int) (k : Nat) : (votersTo c s k).length ≤ k := by
  unfold votersTo
  refine Nat.le_trans (List.length_filter_le _ _) ?_
  simp

theorem votersTo_in (c : Cf) (s : Int) (k : Nat) : ∀ a ∈ votersTo c s k, 0 ≤ a ∧ a < k := by
  intro a ha
  unfold votersTo at ha
  have h := (List.mem_filter.1 ha).1
  rw [List.mem_map] at h
  obtain ⟨i, hi, rfl⟩ := h
  rw [List.mem_range] at hi
  omega

def slotsI (c : Cf) : Int := c.N + c.P.length
def mostI (c : Cf) : Int := c.N / 2 + 1
def windowI (c : Cf) : Int := 2 * c.Pi
def limitI (c : Cf) : Int := 4 * c.N + 8
def wireI (c : Cf) (r : Int) : Int := (c.F + r) % 65536

theorem pairsB_no (c : Cf) (k : Nat) (h : k < c.P.length) (hn : pairB c c.P[k] = false) : pairsB c = false := by
  rw [Bool.eq_false_iff]
  intro e
  unfold pairsB at e
  rw [List.all_eq_true] at e
  rw [e _ (List.getElem_mem h)] at hn
  cases hn
theorem pairsB_yes (c : Cf) (k : Nat) (h : ¬ k < c.P.length) (ha : ∀ z ∈ c.P.take k, pairB c z = true) : pairsB c = true := by
  unfold pairsB
  rw [List.all_eq_true]
  rw [List.take_of_length_le (by omega)] at ha
  exact ha
theorem pairB_node (c : Cf) (z : Int) (h : z ≠ -1) : pairB c z = nodeB c z := by
  unfold pairB nodeB
  congr 1
  simp; omega

/-- The law's network that may be, of a raw one. -/
def makeC (c : Cf) : Cf :=
  { N := 6 + c.N % 7
    Pi := 4 * (c.E % 21 + c.G % 21 + 1) + c.Pi % 100
    E := c.E % 21
    G := c.G % 21
    F := if c.F % 3 = 0 then 65535 - c.F % 40 else c.F % 65536
    P := (c.P.take 3).map fun z => z % (6 + c.N % 7 + 1) - 1 }

theorem makeC_ok (c : Cf) : (makeC c).Ok where
  n6 := by simp only [makeC]; omega
  n12 := by simp only [makeC]; omega
  e0 := by simp only [makeC]; omega
  e1 := by simp only [makeC]; omega
  g0 := by simp only [makeC]; omega
  g1 := by simp only [makeC]; omega
  f0 := by simp only [makeC]; split <;> omega
  f1 := by simp only [makeC]; split <;> omega
  p0 := by simp only [makeC]; omega
  p1 := by simp only [makeC]; omega
  len := by simp [makeC]; omega
  all := by
    intro a ha
    simp only [makeC, List.mem_map] at ha ⊢
    obtain ⟨z, _, rfl⟩ := ha
    have h1 : 0 ≤ z % (6 + c.N % 7 + 1) := Int.emod_nonneg _ (by omega)
    have h2 : z % (6 + c.N % 7 + 1) < 6 + c.N % 7 + 1 := Int.emod_lt_of_pos _ (by omega)
    omega

end Plait
/-
  A network as it lies in memory.
-/
namespace Go.Proofs.YtkflijbhlibadabDoor
open Go.RowKit Plait
set_option maxRecDepth 100000

/-- The box of a network. -/
def confBox (c : Cf) (a : Option Addr) (cap : Nat) : Array Value := #[.int .i64 c.N, .int .i64 c.Pi, .int .i64 c.E, .int .i64 c.G, .int .i64 c.F, .slice a c.P.length cap]

end Go.Proofs.YtkflijbhlibadabDoor
/-
  Plain mathematics of symbols: texts as lists of bytes, with no program in it: the longest stream at a text's front, common fronts, turned symbols, bits and numbers.
-/
namespace Plait

/-- How many bytes at the front are a stream. -/
def slen : List UInt8 → Nat
  | [] => 0
  | c :: l => if c = 35 then 1 else if c = 48 ∨ c = 49 then slen l + 1 else 0

theorem slen_le : ∀ l, slen l ≤ l.length
  | [] => by simp [slen]
  | c :: l => by
    have := slen_le l
    simp only [slen, List.length_cons]
    split
    · omega
    · split <;> omega

def clean (l : List UInt8) : List UInt8 := l.take (slen l)

/-- Is it a bit? -/
def bitB (c : UInt8) : Bool := c == 48 || c == 49

/-- All of the first k bytes are bits: the stream goes on behind them. -/
theorem slen_bits : ∀ (k : Nat) (l : List UInt8), k ≤ l.length → (∀ c ∈ l.take k, bitB c = true) → slen l = k + slen (l.drop k)
  | 0, l, _, _ => by simp
  | k + 1, [], h, _ => by simp at h
  | k + 1, c :: l, h, hb => by
    have hc : bitB c = true := hb c (by simp)
    have ih := slen_bits k l (by simpa using h) (fun d hd => hb d (by simp [hd]))
    simp [bitB] at hc
    have h35 : ¬ c = 35 := by rintro rfl; simp at hc
    simp only [slen, if_neg h35, if_pos hc, List.drop_succ_cons, ih]
    omega

theorem slen_at_tail (l : List UInt8) (k : Nat) (hk : k < l.length) (hb : ∀ c ∈ l.take k, bitB c = true) (h : l[k] = 35) : slen l = k + 1 := by
  rw [slen_bits k l (by omega) hb, List.drop_eq_getElem_cons hk, h]
  simp [slen]

theorem slen_at_other (l : List UInt8) (k : Nat) (hk : k < l.length) (hb : ∀ c ∈ l.take k, bitB c = true) (h : l[k] ≠ 35) (h' : bitB l[k] = false) : slen l = k := by
  rw [slen_bits k l (by omega) hb, List.drop_eq_getElem_cons hk]
  simp [bitB] at h'
  simp [slen, h, h']

theorem slen_at_end (l : List UInt8) (hb : ∀ c ∈ l.take l.length, bitB c = true) : slen l = l.length := by
  have := slen_bits l.length l (Nat.le_refl _) hb
  simpa [slen] using this

theorem bits_snoc (l : List UInt8) (k : Nat) (hk : k < l.length) (hb : ∀ c ∈ l.take k, bitB c = true) (h : bitB l[k] = true) : ∀ c ∈ l.take (k + 1), bitB c = true := by
  intro c hc
  rw [List.take_succ_eq_append_getElem hk] at hc
  rcases List.mem_append.1 hc with hc | hc
  · exact hb c hc
  · simp at hc; rw [hc]; exact h

/-- How long the front is that two texts have. -/
def comm : List UInt8 → List UInt8 → Nat
  | a :: l, b :: m => if a = b then comm l m + 1 else 0
  | _, _ => 0

def common (l m : List UInt8) : List UInt8 := l.take (comm l m)

theorem comm_le_left : ∀ l m, comm l m ≤ l.length
  | [], m => by simp [comm]
  | a :: l, [] => by simp [comm]
  | a :: l, b :: m => by
    have := comm_le_left l m
    simp only [comm, List.length_cons]
    split <;> omega

theorem comm_le_right : ∀ l m, comm l m ≤ m.length
  | [], m => by simp [comm]
  | a :: l, [] => by simp [comm]
  | a :: l, b :: m => by
    have := comm_le_right l m
    simp only [comm, List.length_cons]
    split <;> omega

theorem comm_drop : ∀ (k : Nat) (l m : List UInt8), k ≤ l.length → k ≤ m.length → l.take k = m.take k → comm l m = k + comm (l.drop k) (m.drop k)
  | 0, l, m, _, _, _ => by simp
  | k + 1, [], m, h, _, _ => by simp at h
  | k + 1, a :: l, [], _, h, _ => by simp at h
  | k + 1, a :: l, b :: m, h1, h2, h => by
    simp only [List.take_succ_cons, List.cons.injEq] at h
    have ih := comm_drop k l m (by simpa using h1) (by simpa using h2) h.2
    simp only [comm, if_pos h.1, List.drop_succ_cons, ih]
    omega

theorem comm_stop (k : Nat) (l m : List UInt8) (h1 : k < l.length) (h2 : k < m.length) (h : l.take k = m.take k) (hne : l[k] ≠ m[k]) : comm l m = k := by
  rw [comm_drop k l m (by omega) (by omega) h, List.drop_eq_getElem_cons h1, List.drop_eq_getElem_cons h2]
  simp [comm, hne]

theorem comm_out_left (k : Nat) (l m : List UInt8) (h1 : k = l.length) (h2 : k ≤ m.length) (h : l.take k = m.take k) : comm l m = k := by
  rw [comm_drop k l m (by omega) h2 h, List.drop_of_length_le (by omega)]
  simp [comm]

theorem comm_out_right (k : Nat) (l m : List UInt8) (h1 : k ≤ l.length) (h2 : k = m.length) (h : l.take k = m.take k) : comm l m = k := by
  rw [comm_drop k l m h1 (by omega) h, List.drop_of_length_le (l := m) (by omega)]
  cases l.drop k <;> simp [comm]

theorem take_snoc_eq (k : Nat) (l m : List UInt8) (h1 : k < l.length) (h2 : k < m.length) (h : l.take k = m.take k) (he : l[k] = m[k]) : l.take (k + 1) = m.take (k + 1) := by
  rw [List.take_succ_eq_append_getElem h1, List.take_succ_eq_append_getElem h2, h, he]

/-- A symbol turned. -/
def other (c : UInt8) : UInt8 := if c = 48 then 49 else if c = 49 then 48 else if c = 35 then 48 else c

def turn (l : List UInt8) (at_ : Int) : List UInt8 := if 0 ≤ at_ ∧ at_ < l.length then l.set at_.toNat (other (l.getD at_.toNat 0)) else l

def frontB (l m : List UInt8) : Bool := l.isPrefixOf m

def wholeB (l : List UInt8) : Bool := l.getLast? == some 35 && slen l == l.length

/-- The bit of n at the place that is i from the front, of size places. -/
def bitAt (n : Int) (size i : Nat) : UInt8 := if n / 2 ^ (size - 1 - i) % 2 = 1 then 49 else 48

theorem bitAt_toNat (n : Int) (size i : Nat) : ((bitAt n size i).toNat : Int) = 48 + n / 2 ^ (size - 1 - i) % 2 := by
  have h : n / 2 ^ (size - 1 - i) % 2 = 0 ∨ n / 2 ^ (size - 1 - i) % 2 = 1 := by omega
  unfold bitAt
  rcases h with h | h <;> simp [h]

def bitsL (n : Int) (size : Nat) : List UInt8 := (List.range size).map (bitAt n size)

theorem bitsL_length (n : Int) (size : Nat) : (bitsL n size).length = size := by simp [bitsL]

def bitsI (n size : Int) : List UInt8 := if 1 ≤ size ∧ size ≤ 62 then bitsL n size.toNat else []

theorem bitsL_get (n : Int) (size i : Nat) (h : i < (bitsL n size).length) : (bitsL n size)[i] = bitAt n size i := by simp [bitsL]

/-- What bits mean, the highest first. -/
def numV (l : List UInt8) : Nat := l.foldl (fun a c => 2 * a + if c = 49 then 1 else 0) 0

theorem numV_snoc (l : List UInt8) (c : UInt8) : numV (l ++ [c]) = 2 * numV l + if c = 49 then 1 else 0 := by simp [numV]

theorem foldl_lt : ∀ (l : List UInt8) (a n : Nat), a < 2 ^ n → l.foldl (fun a c => 2 * a + if c = 49 then 1 else 0) a < 2 ^ (n + l.length)
  | [], a, n, h => by simpa using h
  | c :: l, a, n, h => by
    have h' : 2 * a + (if c = 49 then 1 else 0) < 2 ^ (n + 1) := by rw [Nat.pow_succ]; split <;> omega
    have := foldl_lt l _ (n + 1) h'
    simp only [List.foldl_cons, List.length_cons]
    rw [show n + (l.length + 1) = n + 1 + l.length by omega]
    exact this

theorem numV_lt (l : List UInt8) : numV l < 2 ^ l.length := by
  have := foldl_lt l 0 0 (by simp)
  simpa [numV] using this

def numOk (l : List UInt8) : Bool := decide (1 ≤ l.length) && decide (l.length ≤ 62) && l.all bitB

/-- The laws' texts: a symbol, or another sign, of each number. -/
def signs : List UInt8 := [48, 49, 48, 49, 48, 49, 48, 49, 35, 46, 120]
def signOf (z : Int) : UInt8 := signs.getD (z % 11).toNat 0
def textL (zs : List Int) : List UInt8 := (zs.take 80).map signOf

theorem textL_length (zs : List Int) : (textL zs).length ≤ 80 := by simp [textL]; omega

end Plait
/-
  Plain mathematics of symbols, on: bits mean what they were made of; they are ordered as the numbers are; fronts of fronts.
-/
namespace Plait

theorem pow_two_succ (k : Nat) : (2 : Int) ^ (k + 1) = 2 * 2 ^ k := by rw [Int.pow_succ]; omega

/-- The first bits mean the number without its lowest ones. -/
theorem numV_bits_take (n : Int) (size : Nat) : ∀ k, k ≤ size → (numV ((bitsL n size).take k) : Int) = n / 2 ^ (size - k) % 2 ^ k
  | 0, _ => by simp [numV, Int.emod_one]
  | k + 1, h => by
    have ih := numV_bits_take n size k (by omega)
    rw [List.take_succ_eq_append_getElem (by rw [bitsL_length]; omega), bitsL_get, numV_snoc]
    have e : size - 1 - k = size - (k + 1) := by omega
    have e2 : size - k = (size - (k + 1)) + 1 := by omega
    have hd : n / 2 ^ (size - k) = n / 2 ^ (size - (k + 1)) / 2 := by
      rw [e2, pow_two_succ, Int.mul_comm, Int.ediv_ediv_of_nonneg (by exact Int.pow_nonneg (by decide))]
    rw [hd] at ih
    unfold bitAt
    rw [e]
    generalize n / 2 ^ (size - (k + 1)) = m at *
    have hmod : m % 2 ^ (k + 1) = 2 * (m / 2 % 2 ^ k) + m % 2 := by
      have h1 := Int.emod_add_mul_ediv m 2
      have h2 := Int.emod_add_mul_ediv (m / 2) (2 ^ k)
      have hp : (0 : Int) < 2 ^ k := Int.pow_pos (by decide)
      have b1 := Int.emod_nonneg (m / 2) (show (2 : Int) ^ k ≠ 0 by omega)
      have b2 := Int.emod_lt_of_pos (m / 2) hp
      have e3 : m = (2 * (m / 2 % 2 ^ k) + m % 2) + 2 ^ (k + 1) * (m / 2 / 2 ^ k) := by
        rw [pow_two_succ, Int.mul_assoc]; omega
      have b3 : m % 2 = 0 ∨ m % 2 = 1 := by omega
      conv => lhs; rw [e3]
      rw [Int.add_mul_emod_self_left]
      apply Int.emod_eq_of_lt
      · omega
      · rw [pow_two_succ]; omega
    rw [hmod]
    have b : m % 2 = 0 ∨ m % 2 = 1 := by omega
    rcases b with b | b
    · simp [b, ih]
    · simp [b, ih]

theorem numV_bits (n : Int) (size : Nat) : (numV (bitsL n size) : Int) = n % 2 ^ size := by
  have := numV_bits_take n size size (Nat.le_refl _)
  rw [List.take_of_length_le (by rw [bitsL_length]; exact Nat.le_refl _)] at this
  simpa using this

theorem bits_all (n : Int) (size : Nat) : ∀ c ∈ bitsL n size, bitB c = true := by
  intro c hc
  simp only [bitsL, List.mem_map] at hc
  obtain ⟨i, _, rfl⟩ := hc
  unfold bitAt
  split <;> decide

theorem foldl_zero (l : List UInt8) : numV (48 :: l) = numV l := by simp [numV]

/-- Of texts of bits that are as long the meaning is the order. -/
theorem foldl_lt_iff : ∀ (l m : List UInt8) (a b : Nat), l.length = m.length → (∀ c ∈ l, bitB c = true) → (∀ c ∈ m, bitB c = true) →
    (l.foldl (fun a c => 2 * a + if c = 49 then 1 else 0) a < m.foldl (fun a c => 2 * a + if c = 49 then 1 else 0) b ↔ a < b ∨ (a = b ∧ Go.Op.bytesLess l m = true)) ∧
    (l.foldl (fun a c => 2 * a + if c = 49 then 1 else 0) a = m.foldl (fun a c => 2 * a + if c = 49 then 1 else 0) b ↔ a = b ∧ l = m)
  | [], [], a, b, _, _, _ => by simp [Go.Op.bytesLess]
  | [], _ :: _, _, _, h, _, _ => by simp at h
  | _ :: _, [], _, _, h, _, _ => by simp at h
  | c :: l, d :: m, a, b, h, hl, hm => by
    have ih := foldl_lt_iff l m (2 * a + if c = 49 then 1 else 0) (2 * b + if d = 49 then 1 else 0) (by simpa using h) (fun x hx => hl x (by simp [hx])) (fun x hx => hm x (by simp [hx]))
    have hc := hl c (by simp)
    have hd := hm d (by simp)
    simp [bitB] at hc hd
    simp only [List.foldl_cons]
    rw [ih.1, ih.2]
    have e : 2 * a = 2 * b ↔ a = b := by omega
    rcases hc with rfl | rfl <;> rcases hd with rfl | rfl <;> simp [Go.Op.bytesLess]
    · simp [e]
    · omega
    · omega
    · simp [e]

theorem bits_less (x y : Int) (size : Nat) (hx0 : 0 ≤ x) (hx : x < 2 ^ size) (hy0 : 0 ≤ y) (hy : y < 2 ^ size) : Go.Op.bytesLess (bitsL x size) (bitsL y size) = decide (x < y) ∧ (bitsL x size == bitsL y size) = (x == y) := by
  have h := foldl_lt_iff (bitsL x size) (bitsL y size) 0 0 (by rw [bitsL_length, bitsL_length]) (bits_all x size) (bits_all y size)
  have ex : (numV (bitsL x size) : Int) = x := by rw [numV_bits, Int.emod_eq_of_lt hx0 hx]
  have ey : (numV (bitsL y size) : Int) = y := by rw [numV_bits, Int.emod_eq_of_lt hy0 hy]
  have h1 : numV (bitsL x size) < numV (bitsL y size) ↔ Go.Op.bytesLess (bitsL x size) (bitsL y size) = true := by simpa [numV] using h.1
  have h2 : numV (bitsL x size) = numV (bitsL y size) ↔ bitsL x size = bitsL y size := by simpa [numV] using h.2
  constructor
  · rw [Bool.eq_iff_iff, ← h1, decide_eq_true_iff]; omega
  · rw [Bool.eq_iff_iff, beq_iff_eq, beq_iff_eq, ← h2]; omega

end Plait
/-
  Plain mathematics of sums: sixteen bits that move and are laid over; what is laid over one another is summed apart; which turned bits are found.
-/
namespace Plait
set_option linter.unusedVariables false

/-- One place up; what goes out at the top is laid over. -/
def L (r : BitVec 16) : BitVec 16 := (r <<< 1) ^^^ (if r.msb then 0x1021#16 else 0#16)

def stepB (r : BitVec 16) (b : Bool) : BitVec 16 := L r ^^^ (if b then 0x1021#16 else 0#16)

def feed (r : BitVec 16) (bs : List Bool) : BitVec 16 := bs.foldl stepB r

def xorL (u v : List Bool) : List Bool := List.zipWith xor u v

theorem ite_xor (a b : Bool) (p : BitVec 16) : (if xor a b then p else 0#16) = (if a then p else 0#16) ^^^ (if b then p else 0#16) := by
  cases a <;> cases b <;> simp

theorem xor_four (a b c d : BitVec 16) : (a ^^^ b) ^^^ (c ^^^ d) = (a ^^^ c) ^^^ (b ^^^ d) := by
  rw [BitVec.xor_assoc, BitVec.xor_assoc, ← BitVec.xor_assoc b c d, BitVec.xor_comm b c, BitVec.xor_assoc c b d]

theorem L_xor (r s : BitVec 16) : L (r ^^^ s) = L r ^^^ L s := by
  unfold L
  rw [BitVec.shiftLeft_xor_distrib, BitVec.msb_xor, ite_xor, xor_four]

theorem L_zero : L 0#16 = 0#16 := by decide

theorem step_xor (r s : BitVec 16) (b c : Bool) : stepB (r ^^^ s) (xor b c) = stepB r b ^^^ stepB s c := by
  unfold stepB
  rw [L_xor, ite_xor, xor_four]

theorem feed_xor : ∀ (u v : List Bool) (r s : BitVec 16), u.length = v.length → feed (r ^^^ s) (xorL u v) = feed r u ^^^ feed s v
  | [], [], r, s, _ => rfl
  | [], _ :: _, _, _, h => by simp at h
  | _ :: _, [], _, _, h => by simp at h
  | b :: u, c :: v, r, s, h => by
    have ih := feed_xor u v (stepB r b) (stepB s c) (by simpa using h)
    rw [← step_xor] at ih
    exact ih

theorem feed_append (r : BitVec 16) (u v : List Bool) : feed r (u ++ v) = feed (feed r u) v := by simp [feed]

/-- Nothing is moved away. -/
theorem L_eq_zero (r : BitVec 16) (h : L r = 0#16) : r = 0#16 := by
  unfold L at h
  by_cases hm : r.msb = true
  · rw [hm, if_pos rfl] at h
    have h0 := congrArg (fun x : BitVec 16 => x.getLsbD 0) h
    simp at h0
  · rw [Bool.not_eq_true] at hm
    rw [hm] at h
    simp at h
    apply BitVec.eq_of_getLsbD_eq
    intro i hi
    by_cases hi15 : i = 15
    · subst hi15
      rw [BitVec.msb_eq_getLsbD_last] at hm
      simpa using hm
    · have h1 := congrArg (fun x : BitVec 16 => x.getLsbD (i + 1)) h
      simp at h1
      have := h1 (by omega)
      simpa using this

def Lk : Nat → BitVec 16 → BitVec 16
  | 0, r => r
  | k + 1, r => Lk k (L r)

theorem Lk_eq_zero : ∀ (k : Nat) (r : BitVec 16), Lk k r = 0#16 → r = 0#16
  | 0, _, h => h
  | k + 1, r, h => L_eq_zero r (Lk_eq_zero k (L r) h)

theorem Lk_zero : ∀ k, Lk k 0#16 = 0#16
  | 0 => rfl
  | k + 1 => by rw [Lk, L_zero, Lk_zero k]

theorem Lk_xor : ∀ (k : Nat) (r s : BitVec 16), Lk k (r ^^^ s) = Lk k r ^^^ Lk k s
  | 0, r, s => rfl
  | k + 1, r, s => by rw [Lk, L_xor, Lk_xor k]; rfl

theorem Lk_add : ∀ (k m : Nat) (r : BitVec 16), Lk (k + m) r = Lk m (Lk k r)
  | 0, m, r => by rw [Nat.zero_add]; rfl
  | k + 1, m, r => by rw [show k + 1 + m = (k + m) + 1 by omega, Lk, Lk_add k m]; rfl

theorem feed_zeros : ∀ (k : Nat) (r : BitVec 16), feed r (List.replicate k false) = Lk k r
  | 0, r => rfl
  | k + 1, r => by
    rw [List.replicate_succ, feed, List.foldl_cons]
    have : stepB r false = L r := by simp [stepB]
    rw [this]
    exact feed_zeros k (L r)

/-- The highest k bits of a register, the highest first. -/
def topBits : Nat → BitVec 16 → List Bool
  | 0, _ => []
  | k + 1, r => r.msb :: topBits k (r <<< 1)

theorem topBits_length : ∀ k r, (topBits k r).length = k
  | 0, _ => rfl
  | k + 1, r => by rw [topBits, List.length_cons, topBits_length k]

theorem step_msb (r : BitVec 16) : stepB r r.msb = r <<< 1 := by
  unfold stepB L
  rw [BitVec.xor_assoc, BitVec.xor_self, BitVec.xor_zero]

theorem feed_top : ∀ (k : Nat) (r : BitVec 16), feed r (topBits k r) = r <<< k
  | 0, r => by simp [feed, topBits]
  | k + 1, r => by
    have ih := feed_top k (r <<< 1)
    rw [topBits, feed, List.foldl_cons, step_msb]
    rw [show k + 1 = 1 + k by omega, BitVec.shiftLeft_add]
    exact ih

theorem feed_own (r : BitVec 16) : feed r (topBits 16 r) = 0#16 := by
  rw [feed_top]
  apply BitVec.eq_of_getLsbD_eq
  intro i hi
  simp

theorem topBits_get : ∀ (k : Nat) (r : BitVec 16) (i : Nat), i < k → (topBits k r)[i]? = some (r.getMsbD i)
  | 0, _, i, h => by omega
  | k + 1, r, 0, _ => by simp [topBits, BitVec.msb]
  | k + 1, r, i + 1, h => by
    have := topBits_get k (r <<< 1) i (by omega)
    rw [topBits, List.getElem?_cons_succ, this]
    simp [BitVec.getMsbD_shiftLeft]

theorem topBits_all (e : List Bool) (h : e.length = 16) : ∃ s : BitVec 16, topBits 16 s = e := by
  refine ⟨(BitVec.ofBoolListBE e).cast h, ?_⟩
  apply List.ext_getElem?
  intro i
  by_cases hi : i < 16
  · rw [topBits_get 16 _ i hi, BitVec.getMsbD_cast, BitVec.getMsbD_ofBoolListBE, List.getElem?_eq_getElem (by omega)]
    simp [List.getD, List.getElem?_eq_getElem (show i < e.length by omega)]
  · rw [List.getElem?_eq_none (by rw [topBits_length]; omega), List.getElem?_eq_none (by omega)]

theorem topBits_zero : ∀ k, topBits k 0#16 = List.replicate k false
  | 0 => rfl
  | k + 1 => by
    rw [topBits, show (0#16 : BitVec 16) <<< 1 = 0#16 by decide, topBits_zero k]
    rfl

theorem xorL_false : ∀ (u : List Bool), xorL u (List.replicate u.length false) = u
  | [] => rfl
  | b :: u => by
    have := xorL_false u
    simp only [xorL] at this
    simp [xorL, List.replicate_succ, this]

theorem false_xorL (u : List Bool) : xorL (List.replicate u.length false) u = u := by
  have := xorL_false u
  unfold xorL at *
  rw [List.zipWith_comm]
  simpa [Bool.xor_comm] using this

/-- Of sixteen bits that are fed to nothing nothing is left only where all are noughts. -/
theorem feed_sixteen (e : List Bool) (h : e.length = 16) (hz : feed 0#16 e = 0#16) : e = List.replicate 16 false := by
  obtain ⟨s, rfl⟩ := topBits_all e h
  have h1 := feed_xor (List.replicate 16 false) (topBits 16 s) s 0#16 (by rw [topBits_length]; rfl)
  have e1 : xorL (List.replicate 16 false) (topBits 16 s) = topBits 16 s := by
    have := false_xorL (topBits 16 s)
    rwa [topBits_length] at this
  rw [BitVec.xor_zero, e1, feed_own, hz, BitVec.xor_zero, feed_zeros] at h1
  have := Lk_eq_zero 16 s h1.symm
  rw [this, topBits_zero]

/-- Sixteen bits clear a register just if they are its own. -/
theorem feed_clears (r : BitVec 16) (u : List Bool) (h : u.length = 16) : feed r u = 0#16 ↔ u = topBits 16 r := by
  constructor
  · intro hz
    have h1 := feed_xor u (topBits 16 r) r r (by rw [h, topBits_length])
    rw [BitVec.xor_self, hz, feed_own, BitVec.xor_zero] at h1
    have h2 := feed_sixteen _ (by simp [xorL, h, topBits_length]) h1
    apply List.ext_getElem (by rw [h, topBits_length])
    intro i hi hi'
    have h3 : (xorL u (topBits 16 r))[i]'(by simp only [xorL, List.length_zipWith]; omega) = false := by
      simp only [h2, List.getElem_replicate]
    simp [xorL] at h3
    exact h3
  · rintro rfl
    exact feed_own r

/-- One bit among noughts. -/
def oneBit (n k : Nat) : List Bool := List.replicate k false ++ true :: List.replicate (n - 1 - k) false

theorem oneBit_length (n k : Nat) (h : k < n) : (oneBit n k).length = n := by simp [oneBit]; omega

theorem feed_oneBit (n k : Nat) : feed 0#16 (oneBit n k) = Lk (n - 1 - k) 0x1021#16 := by
  rw [oneBit, feed_append, feed_zeros, Lk_zero, feed, List.foldl_cons]
  have : stepB 0#16 true = 0x1021#16 := by decide
  rw [this]
  exact feed_zeros _ _

/-- Is the number of ones odd? -/
def par (r : BitVec 16) : Bool := ((((((((((((((r.getLsbD 0 ^^ r.getLsbD 1) ^^ r.getLsbD 2) ^^ r.getLsbD 3) ^^ r.getLsbD 4) ^^ r.getLsbD 5) ^^ r.getLsbD 6) ^^ r.getLsbD 7) ^^ r.getLsbD 8) ^^ r.getLsbD 9) ^^ r.getLsbD 10) ^^ r.getLsbD 11) ^^ r.getLsbD 12) ^^ r.getLsbD 13) ^^ r.getLsbD 14) ^^ r.getLsbD 15

theorem par_xor (r s : BitVec 16) : par (r ^^^ s) = (par r ^^ par s) := by
  have h : ∀ p q a b : Bool, ((p ^^ q) ^^ (a ^^ b)) = ((p ^^ a) ^^ (q ^^ b)) := by decide
  simp only [par, BitVec.getLsbD_xor]
  generalize r.getLsbD 0 = r0, r.getLsbD 1 = r1, r.getLsbD 2 = r2, r.getLsbD 3 = r3, r.getLsbD 4 = r4, r.getLsbD 5 = r5, r.getLsbD 6 = r6, r.getLsbD 7 = r7, r.getLsbD 8 = r8, r.getLsbD 9 = r9, r.getLsbD 10 = r10, r.getLsbD 11 = r11, r.getLsbD 12 = r12, r.getLsbD 13 = r13, r.getLsbD 14 = r14, r.getLsbD 15 = r15
  generalize s.getLsbD 0 = s0, s.getLsbD 1 = s1, s.getLsbD 2 = s2, s.getLsbD 3 = s3, s.getLsbD 4 = s4, s.getLsbD 5 = s5, s.getLsbD 6 = s6, s.getLsbD 7 = s7, s.getLsbD 8 = s8, s.getLsbD 9 = s9, s.getLsbD 10 = s10, s.getLsbD 11 = s11, s.getLsbD 12 = s12, s.getLsbD 13 = s13, s.getLsbD 14 = s14, s.getLsbD 15 = s15
  rw [h r0 s0 r1 s1, h _ _ r2 s2, h _ _ r3 s3, h _ _ r4 s4, h _ _ r5 s5, h _ _ r6 s6, h _ _ r7 s7, h _ _ r8 s8, h _ _ r9 s9, h _ _ r10 s10, h _ _ r11 s11, h _ _ r12 s12, h _ _ r13 s13, h _ _ r14 s14, h _ _ r15 s15]

theorem par_shift (r : BitVec 16) : par (r <<< 1) = (par r ^^ r.msb) := by
  rw [BitVec.msb_eq_getLsbD_last]
  simp [par]

theorem par_L (r : BitVec 16) : par (L r) = par r := by
  unfold L
  rw [par_xor, par_shift]
  cases r.msb <;> simp [par]

theorem par_Lk : ∀ (k : Nat) (r : BitVec 16), par (Lk k r) = par r
  | 0, _ => rfl
  | k + 1, r => by rw [Lk, par_Lk k, par_L]

/-- The first so many places are other ones. -/
def chk : Nat → BitVec 16 → Bool
  | 0, _ => true
  | k + 1, r => (L r != 0x1021#16) && chk k (L r)

theorem chk_ne : ∀ (k : Nat) (r : BitVec 16), chk k r = true → ∀ d, 0 < d → d ≤ k → Lk d r ≠ 0x1021#16
  | 0, _, _, d, h0, hd => by omega
  | k + 1, r, h, d, h0, hd => by
    simp only [chk, Bool.and_eq_true, bne_iff_ne] at h
    cases d with
    | zero => omega
    | succ d =>
      rw [Lk]
      by_cases h1 : d = 0
      · subst h1; exact h.1
      · exact chk_ne k (L r) h.2 d (by omega) (by omega)

theorem far_ne (d : Nat) (h0 : 0 < d) (hd : d ≤ 1000) : Lk d 0x1021#16 ≠ 0x1021#16 :=
  chk_ne 1000 _ (by decide +kernel) d h0 hd

theorem one_found (n k : Nat) : feed 0#16 (oneBit n k) ≠ 0#16 := by
  rw [feed_oneBit]
  intro h
  exact absurd (Lk_eq_zero _ _ h) (by decide)

theorem xor_eq_zero_iff' (a b : BitVec 16) (h : a ^^^ b = 0#16) : a = b := by
  have := congrArg (fun x => x ^^^ b) h
  simpa [BitVec.xor_assoc] using this

theorem two_found (n a b : Nat) (ha : a < n) (hb : b < n) (hab : a ≠ b) (hn : n ≤ 1000) : feed 0#16 (oneBit n a) ^^^ feed 0#16 (oneBit n b) ≠ 0#16 := by
  intro h
  have h := xor_eq_zero_iff' _ _ h
  rw [feed_oneBit, feed_oneBit] at h
  have key : ∀ i j : Nat, i < j → j < n → Lk (n - 1 - i) 0x1021#16 = Lk (n - 1 - j) 0x1021#16 → False := by
    intro i j hij hj he
    rw [show n - 1 - i = (j - i) + (n - 1 - j) by omega, Lk_add] at he
    have e2 := Lk_xor (n - 1 - j) (Lk (j - i) 0x1021#16) 0x1021#16
    rw [he, BitVec.xor_self] at e2
    exact far_ne (j - i) (by omega) (by omega) (xor_eq_zero_iff' _ _ (Lk_eq_zero _ _ e2))
  rcases Nat.lt_or_gt_of_ne hab with hlt | hgt
  · exact key a b hlt hb h
  · exact key b a hgt ha h.symm

theorem three_found (n a b c : Nat) : feed 0#16 (oneBit n a) ^^^ feed 0#16 (oneBit n b) ^^^ feed 0#16 (oneBit n c) ≠ 0#16 := by
  intro h
  have := congrArg par h
  rw [par_xor, par_xor, feed_oneBit, feed_oneBit, feed_oneBit, par_Lk, par_Lk, par_Lk] at this
  exact absurd this (by decide)

end Plait
/-
  Plain mathematics of symbols, on: the stream at a text's front.
-/
namespace Plait

theorem clean_nil : clean [] = [] := rfl
theorem clean_cons (c : UInt8) (l : List UInt8) : clean (c :: l) = if c = 35 then [35] else if bitB c then c :: clean l else [] := by
  unfold clean
  simp only [slen, bitB]
  by_cases h : c = 35
  · subst h; simp
  · by_cases h2 : c = 48 ∨ c = 49
    · simp [h, h2]
    · simp [h, h2]

theorem clean_length (l : List UInt8) : (clean l).length = slen l := by
  rw [clean, List.length_take]
  have := slen_le l
  omega

theorem clean_idem : ∀ l, clean (clean l) = clean l
  | [] => rfl
  | c :: l => by
    rw [clean_cons]
    split
    · rfl
    · split
      · next h1 h2 => rw [clean_cons, if_neg h1, if_pos h2, clean_idem l]
      · rfl

/-- In a stream there are bits, and at its end, perhaps, the tail. -/
theorem clean_get : ∀ (l : List UInt8) (i : Nat) (h : i < (clean l).length), bitB (clean l)[i] = true ∨ ((clean l)[i] = 35 ∧ i + 1 = (clean l).length)
  | [], i, h => by simp [clean_nil] at h
  | c :: l, i, h => by
    have hc := clean_cons c l
    by_cases h1 : c = 35
    · rw [if_pos h1] at hc
      simp only [hc] at h ⊢
      right
      have : i = 0 := by simpa using h
      subst this
      simp
    · rw [if_neg h1] at hc
      by_cases h2 : bitB c = true
      · rw [if_pos h2] at hc
        simp only [hc] at h ⊢
        cases i with
        | zero => left; simpa using h2
        | succ i =>
          have := clean_get l i (by simpa using h)
          simpa using this
      · rw [if_neg h2] at hc
        rw [hc] at h
        simp at h

theorem clean_tail : ∀ (l r : List UInt8), clean (l ++ 35 :: r) = clean (l ++ [35])
  | [], r => by simp [clean_cons]
  | c :: l, r => by
    rw [List.cons_append, List.cons_append, clean_cons, clean_cons, clean_tail l r]

theorem whole_clean (l : List UInt8) : wholeB (clean l) = ((clean l).getLast? == some 35) := by
  have h : slen (clean l) = (clean l).length := by rw [← clean_length, clean_idem]
  rw [wholeB, h]; simp

/-- What is over stays; what is not goes on. -/
theorem clean_append : ∀ (l m : List UInt8), wholeB (clean l) = false → clean (clean l ++ m) = clean l ++ clean m
  | [], m, _ => rfl
  | c :: l, m, h => by
    rw [clean_cons] at h ⊢
    by_cases h1 : c = 35
    · rw [if_pos h1] at h; exact absurd h (by decide)
    · rw [if_neg h1] at h ⊢
      by_cases h2 : bitB c = true
      · rw [if_pos h2] at h ⊢
        rw [List.cons_append, clean_cons, if_neg h1, if_pos h2, List.cons_append, List.cons.injEq]
        refine ⟨rfl, clean_append l m ?_⟩
        have e : wholeB (c :: clean l) = wholeB (clean (c :: l)) := by rw [clean_cons, if_neg h1, if_pos h2]
        rw [e, whole_clean, clean_cons, if_neg h1, if_pos h2] at h
        rw [whole_clean]
        cases hl : clean l with
        | nil => rfl
        | cons d t => rw [hl, List.getLast?_cons_cons] at h; exact h
      · rw [if_neg h2]; rfl

theorem clean_whole_append : ∀ (l m : List UInt8), wholeB (clean l) = true → clean (clean l ++ m) = clean l
  | [], m, h => absurd h (by decide)
  | c :: l, m, h => by
    rw [clean_cons] at h ⊢
    by_cases h1 : c = 35
    · rw [if_pos h1, List.cons_append, clean_cons, if_pos rfl]
    · rw [if_neg h1] at h ⊢
      by_cases h2 : bitB c = true
      · rw [if_pos h2] at h ⊢
        rw [List.cons_append, clean_cons, if_neg h1, if_pos h2, List.cons.injEq]
        refine ⟨rfl, clean_whole_append l m ?_⟩
        have e : wholeB (c :: clean l) = wholeB (clean (c :: l)) := by rw [clean_cons, if_neg h1, if_pos h2]
        rw [e, whole_clean, clean_cons, if_neg h1, if_pos h2] at h
        rw [whole_clean]
        cases hl : clean l with
        | nil =>
          rw [hl] at h
          simp at h
          exact absurd h h1
        | cons d t => rw [hl, List.getLast?_cons_cons] at h; exact h
      · rw [if_neg h2] at h; exact absurd h (by decide)

end Plait
/-
  Plain mathematics of sums, on: texts that are wrapped, opened, and opened with symbols turned.
-/
namespace Plait
set_option linter.unusedVariables false

def vals (l : List UInt8) : List Bool := l.map (· == 49)

theorem vals_append (l m : List UInt8) : vals (l ++ m) = vals l ++ vals m := by simp [vals]
theorem vals_length (l : List UInt8) : (vals l).length = l.length := by simp [vals]

/-- The sum of a text of bits, as sixteen bits, as a number. -/
def sumB (l : List UInt8) : BitVec 16 := feed 0xffff#16 (vals l)
def sumI (l : List UInt8) : Int := (sumB l).toNat

theorem sumI_range (l : List UInt8) : 0 ≤ sumI l ∧ sumI l < 65536 := by
  have := (sumB l).isLt
  unfold sumI
  omega

def wrapL (b : List UInt8) : List UInt8 := b ++ bitsL (sumI b) 16 ++ [35]

/-- What Open answers: a text and an error's number. -/
def openP (l : List UInt8) : List UInt8 × Int :=
  if wholeB l = false then ([], 4)
  else if l.length < 17 then ([], 3)
  else if (l.drop (l.length - 17)).take 16 = bitsL (sumI (l.take (l.length - 17))) 16 then (l.take (l.length - 17), 0)
  else ([], 5)

def allBits (l : List UInt8) : Prop := ∀ c ∈ l, bitB c = true

theorem vals_inj : ∀ (l m : List UInt8), allBits l → allBits m → vals l = vals m → l = m
  | [], [], _, _, _ => rfl
  | [], _ :: _, _, _, h => by simp [vals] at h
  | _ :: _, [], _, _, h => by simp [vals] at h
  | a :: l, b :: m, hl, hm, h => by
    simp only [vals, List.map_cons, List.cons.injEq] at h
    have ih := vals_inj l m (fun c hc => hl c (by simp [hc])) (fun c hc => hm c (by simp [hc])) h.2
    have ha := hl a (by simp)
    have hb := hm b (by simp)
    simp [bitB] at ha hb
    rw [ih]
    congr 1
    rcases ha with rfl | rfl <;> rcases hb with rfl | rfl <;> simp at h <;> rfl

theorem vals_bits (r : BitVec 16) : vals (bitsL (r.toNat : Int) 16) = topBits 16 r := by
  apply List.ext_getElem?
  intro i
  by_cases hi : i < 16
  · rw [topBits_get 16 r i hi]
    have hl : i < (bitsL (r.toNat : Int) 16).length := by rw [bitsL_length]; exact hi
    simp only [vals, List.getElem?_map, List.getElem?_eq_getElem hl, bitsL_get, Option.map_some, Option.some.injEq]
    rw [BitVec.getMsbD_eq_getLsbD, BitVec.getLsbD, Nat.testBit_eq_decide_div_mod_eq]
    unfold bitAt
    have e : ((r.toNat : Int) / 2 ^ (16 - 1 - i) % 2) = ((r.toNat / 2 ^ (16 - 1 - i) % 2 : Nat) : Int) := by
      rw [Int.natCast_emod, Int.natCast_ediv]; simp
    rw [e]
    by_cases h1 : r.toNat / 2 ^ (16 - 1 - i) % 2 = 1
    · simp [h1, hi]
    · have h0 : r.toNat / 2 ^ (16 - 1 - i) % 2 = 0 := by omega
      simp [h0]
  · rw [List.getElem?_eq_none (by rw [vals_length, bitsL_length]; omega), List.getElem?_eq_none (by rw [topBits_length]; omega)]

theorem sum_append (l m : List UInt8) : sumB (l ++ m) = feed (sumB l) (vals m) := by
  rw [sumB, vals_append, feed_append]; rfl

theorem slen_bits_tail (w r : List UInt8) (h : allBits w) : slen (w ++ 35 :: r) = w.length + 1 := by
  have h1 : (w ++ 35 :: r).take w.length = w := by simp
  apply slen_at_tail (w ++ 35 :: r) w.length (by simp)
  · rw [h1]; exact h
  · simp

theorem whole_bits (w : List UInt8) (h : allBits w) : wholeB (w ++ [35]) = true := by
  rw [wholeB, slen_bits_tail w [] h]; simp

theorem slen_all : ∀ (l : List UInt8) (k : Nat), k + 1 ≤ slen l → ∀ c ∈ l.take k, bitB c = true
  | [], k, h, _, hc => by simp [slen] at h
  | a :: l, 0, _, c, hc => by simp at hc
  | a :: l, k + 1, h, c, hc => by
    simp only [slen] at h
    by_cases h1 : a = 35
    · rw [if_pos h1] at h; omega
    · rw [if_neg h1] at h
      by_cases h2 : a = 48 ∨ a = 49
      · rw [if_pos h2] at h
        rw [List.take_succ_cons] at hc
        rcases List.mem_cons.1 hc with rfl | hc
        · simp [bitB]; exact h2
        · exact slen_all l k (by omega) c hc
      · rw [if_neg h2] at h; omega

/-- Ahead of a whole text's end there are bits. -/
theorem whole_take (l : List UInt8) (n : Nat) (h : wholeB l = true) (hn : n < l.length) : allBits (l.take n) := by
  simp [wholeB] at h
  exact slen_all l n (by omega)

/-- A text of bits and the tail is opened just if the sum of all of them is nought. -/
theorem open_bits (w : List UInt8) (h : allBits w) (h16 : 16 ≤ w.length) :
    openP (w ++ [35]) = if sumB w = 0#16 then (w.take (w.length - 16), 0) else ([], 5) := by
  have hl : (w ++ [35]).length = w.length + 1 := by simp
  have e1 : (w ++ [35]).length - 17 = w.length - 16 := by omega
  have e2 : (w ++ [35]).take (w.length - 16) = w.take (w.length - 16) := by rw [List.take_append_of_le_length (by omega)]
  have e3 : ((w ++ [35]).drop (w.length - 16)).take 16 = w.drop (w.length - 16) := by
    rw [List.drop_append_of_le_length (by omega), List.take_append_of_le_length (by rw [List.length_drop]; omega), List.take_of_length_le (by rw [List.length_drop]; omega)]
  unfold openP
  rw [whole_bits w h, if_neg (by simp), if_neg (by omega), e1, e2, e3]
  have hs : sumB w = feed (sumB (w.take (w.length - 16))) (vals (w.drop (w.length - 16))) := by
    rw [← sum_append, List.take_append_drop]
  have hd : (vals (w.drop (w.length - 16))).length = 16 := by rw [vals_length, List.length_drop]; omega
  have key : (w.drop (w.length - 16) = bitsL (sumI (w.take (w.length - 16))) 16) ↔ sumB w = 0#16 := by
    rw [hs, feed_clears _ _ hd, ← vals_bits]
    constructor
    · intro e; rw [e]; rfl
    · intro e
      exact vals_inj _ _ (fun c hc => h c (List.mem_of_mem_drop hc)) (bits_all _ _) e
  by_cases hz : sumB w = 0#16
  · rw [if_pos (key.2 hz), if_pos hz]
  · rw [if_neg (fun e => hz (key.1 e)), if_neg hz]

theorem wrap_bits (b : List UInt8) (h : allBits b) : allBits (b ++ bitsL (sumI b) 16) := by
  intro c hc
  rcases List.mem_append.1 hc with hc | hc
  · exact h c hc
  · exact bits_all _ _ c hc

theorem wrap_sum (b : List UInt8) : sumB (b ++ bitsL (sumI b) 16) = 0#16 := by
  rw [sum_append, sumI, vals_bits, feed_own]

theorem open_wrap (b : List UInt8) (h : allBits b) : openP (wrapL b) = (b, 0) := by
  have hl : (b ++ bitsL (sumI b) 16).length = b.length + 16 := by rw [List.length_append, bitsL_length]
  rw [wrapL, open_bits _ (wrap_bits b h) (by omega), if_pos (wrap_sum b), hl]
  simp

/-- A text of bits, one of them turned. -/
theorem turn_bit (w : List UInt8) (h : allBits w) (k : Nat) (hk : k < w.length) : turn w (k : Int) = w.set k (other w[k]) := by
  unfold turn
  rw [if_pos (by omega)]
  simp [hk]

theorem other_bit (c : UInt8) (h : bitB c = true) : bitB (other c) = true ∧ (other c == 49) = !(c == 49) := by
  simp [bitB] at h
  rcases h with rfl | rfl <;> decide

theorem turn_allBits (w : List UInt8) (h : allBits w) (k : Nat) (hk : k < w.length) : allBits (turn w (k : Int)) := by
  rw [turn_bit w h k hk]
  intro c hc
  rcases List.mem_or_eq_of_mem_set hc with hc | rfl
  · exact h c hc
  · exact (other_bit _ (h _ (List.getElem_mem hk))).1

theorem turn_length (w : List UInt8) (k : Int) : (turn w k).length = w.length := by
  unfold turn
  split <;> simp

theorem turn_vals (w : List UInt8) (h : allBits w) (k : Nat) (hk : k < w.length) : vals (turn w (k : Int)) = xorL (vals w) (oneBit w.length k) := by
  rw [turn_bit w h k hk]
  apply List.ext_getElem
  · rw [vals_length, List.length_set]; simp [xorL, vals_length, oneBit_length _ _ hk]
  · intro i h1 h2
    have hi : i < w.length := by rw [vals_length, List.length_set] at h1; exact h1
    simp only [vals, List.getElem_map, xorL, List.getElem_zipWith]
    by_cases hik : i = k
    · subst hik
      rw [List.getElem_set_self]
      have : (oneBit w.length i)[i]'(by rw [oneBit_length _ _ hk]; exact hk) = true := by simp [oneBit]
      rw [this, (other_bit _ (h _ (List.getElem_mem hi))).2]
      simp
    · rw [List.getElem_set_ne (by omega)]
      have : (oneBit w.length k)[i]'(by rw [oneBit_length _ _ hk]; exact hi) = false := by
        unfold oneBit
        by_cases hlt : i < k
        · rw [List.getElem_append_left (by simpa using hlt)]; simp
        · rw [List.getElem_append_right (by simp; omega), List.getElem_cons]
          simp
          omega
      rw [this]
      simp

theorem turn_sum (w : List UInt8) (h : allBits w) (k : Nat) (hk : k < w.length) : sumB (turn w (k : Int)) = sumB w ^^^ feed 0#16 (oneBit w.length k) := by
  unfold sumB
  rw [turn_vals w h k hk]
  have := feed_xor (vals w) (oneBit w.length k) 0xffff#16 0#16 (by rw [vals_length, oneBit_length _ _ hk])
  rwa [BitVec.xor_zero] at this

theorem turn_tail (w : List UInt8) (k : Nat) (hk : k < w.length) : turn (w ++ [35]) (k : Int) = turn w (k : Int) ++ [35] := by
  unfold turn
  rw [if_pos (by simp; omega), if_pos (by omega)]
  have : (w ++ [35]).getD (k : Int).toNat 0 = w.getD (k : Int).toNat 0 := by
    simp [List.getD, List.getElem?_append_left hk]
  rw [this]
  simp [List.set_append_left _ _ hk]

end Plait
/-
  Plain mathematics of sums, on: wrapped texts with symbols turned are refused.
-/
namespace Plait
set_option linter.unusedVariables false

/-- A wrapped text's bits. -/
def wrapB (b : List UInt8) : List UInt8 := b ++ bitsL (sumI b) 16

theorem wrapL_eq (b : List UInt8) : wrapL b = wrapB b ++ [35] := rfl
theorem wrapB_length (b : List UInt8) : (wrapB b).length = b.length + 16 := by rw [wrapB, List.length_append, bitsL_length]
theorem wrapL_length (b : List UInt8) : (wrapL b).length = b.length + 17 := by rw [wrapL_eq, List.length_append, wrapB_length]; rfl

theorem wrapB_bits (b : List UInt8) (h : allBits b) : allBits (wrapB b) := wrap_bits b h
theorem wrapB_sum (b : List UInt8) : sumB (wrapB b) = 0#16 := wrap_sum b

theorem open_refused (w : List UInt8) (h : allBits w) (h16 : 16 ≤ w.length) (hs : sumB w ≠ 0#16) : openP (w ++ [35]) = ([], 5) := by
  rw [open_bits w h h16, if_neg hs]

theorem one_refused (b : List UInt8) (h : allBits b) (k : Nat) (hk : k < b.length + 16) : openP (turn (wrapL b) (k : Int)) = ([], 5) := by
  have hk' : k < (wrapB b).length := by rw [wrapB_length]; exact hk
  rw [wrapL_eq, turn_tail _ k hk']
  apply open_refused _ (turn_allBits _ (wrapB_bits b h) k hk') (by rw [turn_length, wrapB_length]; omega)
  rw [turn_sum _ (wrapB_bits b h) k hk', wrapB_sum b, BitVec.zero_xor]
  exact one_found _ _

theorem two_refused (b : List UInt8) (h : allBits b) (hb : b.length ≤ 900) (i j : Nat) (hi : i < b.length + 16) (hj : j < b.length + 16) (hij : i ≠ j) : openP (turn (turn (wrapL b) (i : Int)) (j : Int)) = ([], 5) := by
  have hi' : i < (wrapB b).length := by rw [wrapB_length]; exact hi
  have hj' : j < (turn (wrapB b) (i : Int)).length := by rw [turn_length, wrapB_length]; exact hj
  have a1 := turn_allBits _ (wrapB_bits b h) i hi'
  rw [wrapL_eq, turn_tail _ i hi', turn_tail _ j hj']
  apply open_refused _ (turn_allBits _ a1 j hj') (by rw [turn_length, turn_length, wrapB_length]; omega)
  rw [turn_sum _ a1 j hj', turn_sum _ (wrapB_bits b h) i hi', wrapB_sum b, BitVec.zero_xor, turn_length]
  exact two_found _ i j hi' (by rw [wrapB_length]; exact hj) hij (by rw [wrapB_length]; omega)

theorem three_refused (b : List UInt8) (h : allBits b) (i j k : Nat) (hi : i < b.length + 16) (hj : j < b.length + 16) (hk : k < b.length + 16) : openP (turn (turn (turn (wrapL b) (i : Int)) (j : Int)) (k : Int)) = ([], 5) := by
  have hi' : i < (wrapB b).length := by rw [wrapB_length]; exact hi
  have hj' : j < (turn (wrapB b) (i : Int)).length := by rw [turn_length, wrapB_length]; exact hj
  have hk' : k < (turn (turn (wrapB b) (i : Int)) (j : Int)).length := by rw [turn_length, turn_length, wrapB_length]; exact hk
  have a1 := turn_allBits _ (wrapB_bits b h) i hi'
  have a2 := turn_allBits _ a1 j hj'
  rw [wrapL_eq, turn_tail _ i hi', turn_tail _ j hj', turn_tail _ k hk']
  apply open_refused _ (turn_allBits _ a2 k hk') (by rw [turn_length, turn_length, turn_length, wrapB_length]; omega)
  rw [turn_sum _ a2 k hk', turn_sum _ a1 j hj', turn_sum _ (wrapB_bits b h) i hi', wrapB_sum b, BitVec.zero_xor]
  simp only [turn_length]
  exact three_found _ i j k

theorem bits_not_whole (w : List UInt8) (h : allBits w) : wholeB w = false := by
  unfold wholeB
  rw [Bool.and_eq_false_iff]
  left
  rcases List.eq_nil_or_concat w with rfl | ⟨m, c, rfl⟩
  · rfl
  · have hc := h c (by simp)
    simp [bitB] at hc
    simp
    rcases hc with rfl | rfl <;> decide

theorem tail_gone (b : List UInt8) (h : allBits b) : openP (wrapB b) = ([], 4) := by
  unfold openP
  rw [if_pos (bits_not_whole _ (wrapB_bits b h))]

theorem more_behind (b : List UInt8) (h : allBits b) (c : UInt8) : openP (wrapL b ++ [c]) = ([], 4) := by
  have hl := wrapB_length b
  have : wholeB (wrapL b ++ [c]) = false := by
    unfold wholeB
    rw [Bool.and_eq_false_iff]
    right
    rw [wrapL_eq, List.append_assoc, List.singleton_append, slen_bits_tail _ [c] (wrapB_bits b h)]
    simp
  unfold openP
  rw [if_pos this]

end Plait

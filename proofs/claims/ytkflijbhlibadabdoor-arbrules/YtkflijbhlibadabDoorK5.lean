/-
  Rows of items that a call made itself.
-/
import Derived.Test.YtkflijbhlibadabDoorK4
import Derived.Test.YtkflijbhlibadabDoorK1
namespace Go.Proofs.YtkflijbhlibadabDoor
open Go.RowKit Plait
set_option maxRecDepth 100000
set_option linter.unusedVariables false

/-- The cells of items. -/
def itCells (ts : List It) : List Value := ts.flatMap fun t => [.int .i64 t.K, .int .i64 t.V]

theorem itCells_len : ∀ ts : List It, (itCells ts).length = ts.length * 2
  | [] => rfl
  | t :: r => by unfold itCells; rw [List.flatMap_cons, List.length_append, List.length_cons]; have := itCells_len r; unfold itCells at this; rw [this]; simp; omega

theorem itCells_get : ∀ (ts : List It) (i : Nat) (h : i < ts.length), (itCells ts)[i * 2]? = some (.int .i64 ts[i].K) ∧ (itCells ts)[i * 2 + 1]? = some (.int .i64 ts[i].V)
  | [], i, h => absurd h (by simp)
  | t :: r, 0, h => ⟨rfl, rfl⟩
  | t :: r, i + 1, h => by
    have ih := itCells_get r i (by simpa using h)
    have e : itCells (t :: r) = [.int .i64 t.K, .int .i64 t.V] ++ itCells r := by unfold itCells; rw [List.flatMap_cons]
    rw [e]
    constructor
    · rw [List.getElem?_append_right (by simp; omega), show (i + 1) * 2 - [Value.int .i64 t.K, Value.int .i64 t.V].length = i * 2 by simp; omega]
      exact ih.1
    · rw [List.getElem?_append_right (by simp; omega), show (i + 1) * 2 + 1 - [Value.int .i64 t.K, Value.int .i64 t.V].length = i * 2 + 1 by simp; omega]
      exact ih.2

theorem itCells_append (a b : List It) : itCells (a ++ b) = itCells a ++ itCells b := by simp [itCells]

/-- A row of items that the call made itself. -/
def OwnT (base : Nat) (w : World) (v : Value) (ts : List It) : Prop := w.ownsRow base 26 2 v ts.length (itCells ts)

theorem OwnT.nil (base : Nat) (w : World) : OwnT base w (.slice none 0 0) [] := World.ownsRow_nil w base _ 2

theorem OwnT.form {base : Nat} {w : World} {v : Value} {ts : List It} (h : OwnT base w v ts) : ∃ a cap, v = .slice a ts.length cap := by
  rcases h.2 with ⟨hv, h0⟩ | ⟨g, cap, cur, hv, _⟩
  · exact ⟨none, 0, by rw [hv, h0]⟩
  · exact ⟨_, _, hv⟩

theorem OwnT.lt {base : Nat} {w : World} {v : Value} {ts : List It} (h : OwnT base w v ts) : ∀ k, v.ownBlock = some k → base ≤ k ∧ k < w.heap.size := World.ownsRow.lt h
theorem OwnT.later {base : Nat} {w w' : World} {v : Value} {ts : List It} (h : OwnT base w v ts) (hb : Below w.heap.size w w') : OwnT base w' v ts := by
  refine World.ownsRow.kept (row := none) h ⟨hb.os, hb.tape, hb.output, hb.size, fun k hk _ => hb.block k hk⟩ ?_
  cases hv : v.ownBlock
  · exact .inl rfl
  · exact .inr (by simp)
theorem OwnT.far {base : Nat} {w : World} {v : Value} {ts : List It} (h : OwnT base w v ts) (p : Addr) (u : Value) (hp : p.block < base) : OwnT base (w.setCell p u) v ts := by
  refine World.ownsRow.kept (row := some p.block) h ⟨rfl, rfl, rfl, by simp [World.setCell], fun k hk hne => Below.heap_setCell w p u k (fun e => hne (by rw [e]))⟩ ?_
  cases hv : v.ownBlock with
  | none => exact .inl rfl
  | some g =>
    refine .inr (fun e => ?_)
    have := (h.lt g hv).1
    injection e with e
    omega

theorem OwnT.row {base : Nat} {w : World} {a : Option Addr} {n cap : Nat} {ts : List It} (h : OwnT base w (.slice a n cap) ts) (hl : ts.length ≤ 9223372036854775807) (hz : ∀ t ∈ ts, inI t.K ∧ inI t.V) : RowT w a ts := by
  refine ⟨hl, hz, ?_⟩
  rcases Nat.eq_zero_or_pos ts.length with h0 | h0
  · exact .inl (List.eq_nil_of_length_eq_zero h0)
  · rcases h.2 with ⟨_, h1⟩ | ⟨g, cap', cur, hv, hg, hb, hcap, hmax, hsz, ht⟩
    · omega
    · have hA : a = some ⟨g, 0, none⟩ := by injection hv
      subst hA
      refine .inr ⟨g, 0, rfl, (Array.getElem?_eq_some_iff.1 hb).1, fun i hi => ?_⟩
      have hc := fun j u (hj : (itCells ts)[j]? = some u) => World.ownsRow.cells h (g := g) rfl j u hj
      have hi2 := itCells_get ts i hi
      have c1 := hc _ _ hi2.1
      have c2 := hc _ _ hi2.2
      rw [addr_at] at c1 c2
      exact ⟨c1, c2⟩

theorem infoItem : (Tryd.prog.info? 26).map (fun i => (i.zero, i.size, i.bytes)) = some (some (.agg #[.int .i64 0, .int .i64 0]), 2, 16) := by kernel_rfl

/-- One item behind a row that the call made itself, at a step of a region that draws its order. -/
theorem step_appT {ops : Array Oper} {o : Oper} {a : Act} {K : Act → World → Prop} {Q : Exit → Act → World → Prop} {E : Prop} (w : World) (hgd : o.guard = none) (s x : Operand)
    (ho : o.op = .call { callee := .builtin .append, args := #[s, x], argTypes := #[27, 27] })
    (base : Nat) (v : Value) (ts : List It) (hs : a.eval s = v) (hown : OwnT base w v ts) (H c : Nat) (t : It) (hx : a.eval x = .slice (some ⟨H, 0, none⟩) 1 c)
    (hH : w.heap[H]? = some (.cells #[.int .i64 t.K, .int .i64 t.V] 26 (0, 0))) (hlen : ts.length ≤ 1000000) (hbase : base ≤ w.heap.size)
    (h : ∀ g cap w', OwnT base w' (.slice (some ⟨g, 0, none⟩) (ts.length + 1) cap) (ts ++ [t]) → w.grownBy w' v.ownBlock → (v.ownBlock = some g ∨ g = w.heap.size) → g < w'.heap.size →
      K (a.put o.dst (.slice (some ⟨g, 0, none⟩) (ts.length + 1) cap)) w') : if Region.wanted o (yielded ops a.tmps) = true then Oper.wp Tryd.prog o a w K Q else E := by
  obtain ⟨i, hi, hz0, hz1, hz2⟩ := info_parts infoItem
  refine step_append_lies w hgd s x _ ho base 26 i (.agg #[.int .i64 0, .int .i64 0]) 2 16 Tryd.underlying27 hi hz0 hz1 hz2 rfl (by omega) v ts.length _ hs hown ⟨H, 0, none⟩ 1 c [.int .i64 t.K, .int .i64 t.V] hx rfl
    (World.news_of_block hH) (by simp [Value.oneCell']) (by omega) (by unfold maxLen; omega) (by omega) hbase _ rfl ?_
  intro g cap w' h1 h2 h3 h4
  refine h g cap w' ?_ h2 h3 h4
  unfold OwnT
  rw [List.length_append, itCells_append]
  exact h1

/-- The same, at a plain region's list. -/
theorem wpList_appT {ops : Array Oper} {rest : List Oper} {o : Oper} {a : Act} {Q : Exit → Act → World → Prop} (w : World) (hgd : o.guard = none) (s x : Operand)
    (ho : o.op = .call { callee := .builtin .append, args := #[s, x], argTypes := #[27, 27] })
    (base : Nat) (v : Value) (ts : List It) (hs : a.eval s = v) (hown : OwnT base w v ts) (H c : Nat) (t : It) (hx : a.eval x = .slice (some ⟨H, 0, none⟩) 1 c)
    (hH : w.heap[H]? = some (.cells #[.int .i64 t.K, .int .i64 t.V] 26 (0, 0))) (hlen : ts.length ≤ 1000000) (hbase : base ≤ w.heap.size)
    (h : ∀ g cap w', OwnT base w' (.slice (some ⟨g, 0, none⟩) (ts.length + 1) cap) (ts ++ [t]) → w.grownBy w' v.ownBlock → (v.ownBlock = some g ∨ g = w.heap.size) → g < w'.heap.size →
      wpList Tryd.prog ops Q rest (a.put o.dst (.slice (some ⟨g, 0, none⟩) (ts.length + 1) cap)) w') : wpList Tryd.prog ops Q (o :: rest) a w := by
  obtain ⟨i, hi, hz0, hz1, hz2⟩ := info_parts infoItem
  refine wpList_append_lies w hgd s x _ ho base 26 i (.agg #[.int .i64 0, .int .i64 0]) 2 16 Tryd.underlying27 hi hz0 hz1 hz2 rfl (by omega) v ts.length _ hs hown ⟨H, 0, none⟩ 1 c [.int .i64 t.K, .int .i64 t.V] hx rfl
    (World.news_of_block hH) (by simp [Value.oneCell']) (by omega) (by unfold maxLen; omega) (by omega) hbase _ rfl ?_
  intro g cap w' h1 h2 h3 h4
  refine h g cap w' ?_ h2 h3 h4
  unfold OwnT
  rw [List.length_append, itCells_append]
  exact h1

end Go.Proofs.YtkflijbhlibadabDoor
/-
  Contracts of plaitingref5, sixth part: frames of texts.
-/
namespace Go.Proofs.YtkflijbhlibadabDoor
open Go.RowKit Plait
set_option maxRecDepth 100000
set_option linter.unusedVariables false

/-- What a call answers that reads a frame. -/
def ReadRet (p : Fr × Int) (w : World) (e : Ending) (w' : World) : Prop :=
  ∃ (a : Option Addr) (cap : Nat), e = .returned (.tuple #[.agg #[.int .i64 p.1.K, .int .i64 p.1.R, .int .i64 p.1.S, .int .i64 p.1.P.K, .int .i64 p.1.P.V, .slice a p.1.E.length cap], .int .i64 p.2]) ∧ RowT w' a p.1.E ∧ (∀ x, a = some x → w.heap.size ≤ x.block) ∧ Below w.heap.size w w'

/-- The same, and that its row is the call's own. -/
def ReadRet2 (p : Fr × Int) (w : World) (e : Ending) (w' : World) : Prop :=
  ∃ (a : Option Addr) (cap : Nat), e = .returned (.tuple #[.agg #[.int .i64 p.1.K, .int .i64 p.1.R, .int .i64 p.1.S, .int .i64 p.1.P.K, .int .i64 p.1.P.V, .slice a p.1.E.length cap], .int .i64 p.2]) ∧ RowT w' a p.1.E ∧ (∀ x, a = some x → w.heap.size ≤ x.block) ∧ OwnT w.heap.size w' (.slice a p.1.E.length cap) p.1.E ∧ Below w.heap.size w w'
theorem OwnT.weaken {base base' : Nat} {w : World} {v : Value} {ts : List It} (h : OwnT base w v ts) (hb : base' ≤ base) : OwnT base' w v ts := by
  refine ⟨h.1, ?_⟩
  rcases h.2 with h | ⟨g', cap', cur, h1, h2, h3⟩
  · exact .inl h
  · exact .inr ⟨g', cap', cur, h1, Nat.le_trans hb h2, h3⟩

/-- An empty frame's box. -/
def zeroBox : Array Value := #[.int .i64 0, .int .i64 0, .int .i64 0, .int .i64 0, .int .i64 0, .slice none 0 0]

theorem open_len (l : List UInt8) : (openP l).1.length ≤ l.length := by
  unfold openP
  split
  · simp
  · split
    · simp
    · split
      · show (l.take _).length ≤ _
        rw [List.length_take]; omega
      · simp

/-- Read's last step: the frame is laid into the result's place. -/
theorem read_end (f : Fr) (er : Int) (w wr : World) (av : Option Addr) (cv : Nat) (hB : Below w.heap.size w wr) (k2 : Blk wr (w.heap.size + 1) 29 zeroBox)
    (hown : OwnT (w.heap.size + 2) wr (.slice av f.E.length cv) f.E) (hl : f.E.length ≤ 1000000) (hz : ∀ t ∈ f.E, inI t.K ∧ inI t.V) {p : Fr × Int} (hp : p = (f, er)) {a : Act}
    (h4 : a.tmps[4]? = some (.pointer (some ⟨w.heap.size + 1, 0, none⟩)) := by rfl) (h5 : a.tmps[5]? = some (.int .i64 er) := by rfl) (hd : a.defers = [] := by rfl) :
    bodyPost Tryd.prog Tryd.f35 (ReadRet2 p w) Exit.ret a
      ((((((wr.setCell ⟨w.heap.size + 1, 0, none⟩ (.int .i64 f.K)).setCell ⟨w.heap.size + 1, 1, none⟩ (.int .i64 f.R)).setCell ⟨w.heap.size + 1, 2, none⟩ (.int .i64 f.S)).setCell
        ⟨w.heap.size + 1, 3, none⟩ (.int .i64 f.P.K)).setCell ⟨w.heap.size + 1, 4, none⟩ (.int .i64 f.P.V)).setCell ⟨w.heap.size + 1, 5, none⟩ (.slice av f.E.length cv)) := by
  subst hp
  unfold zeroBox at k2
  have kk := ((((((k2.set 0 (.int .i64 f.K)).set 1 (.int .i64 f.R)).set 2 (.int .i64 f.S)).set 3 (.int .i64 f.P.K)).set 4 (.int .i64 f.P.V)).set 5 (.slice av f.E.length cv))
  have hb2 := (((((hB.setCell (p := ⟨w.heap.size + 1, 0, none⟩) (by simp) (.int .i64 f.K)).setCell (p := ⟨w.heap.size + 1, 1, none⟩) (by simp) (.int .i64 f.R)).setCell (p := ⟨w.heap.size + 1, 2, none⟩) (by simp) (.int .i64 f.S)).setCell
    (p := ⟨w.heap.size + 1, 3, none⟩) (by simp) (.int .i64 f.P.K)).setCell (p := ⟨w.heap.size + 1, 4, none⟩) (by simp) (.int .i64 f.P.V)).setCell (p := ⟨w.heap.size + 1, 5, none⟩) (by simp) (.slice av f.E.length cv)
  have ho := (((((hown.far ⟨w.heap.size + 1, 0, none⟩ (.int .i64 f.K) (by simp)).far ⟨w.heap.size + 1, 1, none⟩ (.int .i64 f.R) (by simp)).far ⟨w.heap.size + 1, 2, none⟩ (.int .i64 f.S) (by simp)).far
    ⟨w.heap.size + 1, 3, none⟩ (.int .i64 f.P.K) (by simp)).far ⟨w.heap.size + 1, 4, none⟩ (.int .i64 f.P.V) (by simp)).far ⟨w.heap.size + 1, 5, none⟩ (.slice av f.E.length cv) (by simp)
  generalize (((((wr.setCell _ _).setCell _ _).setCell _ _).setCell _ _).setCell _ _).setCell _ _ = W at *
  have q := kk.at
  simp at q
  refine bodyPost_ret (v := .tuple #[.agg #[.int .i64 f.K, .int .i64 f.R, .int .i64 f.S, .int .i64 f.P.K, .int .i64 f.P.V, .slice av f.E.length cv], .int .i64 er]) (by simp [results, Tryd.results35, go_sem, h4, h5, q]) hd ⟨av, cv, rfl, ho.row (by omega) hz, ?_, ho.weaken (by omega), hb2⟩
  intro x hx
  have := (ho.lt x.block (by rw [hx]; rfl)).1
  omega

theorem itsOf_succ (l : List UInt8) (k : Nat) : itsOf l (k + 1) = itsOf l k ++ [itOf ((l.drop (10 * k)).take 10)] := by simp [itsOf, List.range_succ]
theorem itsOf_len (l : List UInt8) (k : Nat) : (itsOf l k).length = k := by simp [itsOf]
theorem itOf_in (l : List UInt8) : inI (itOf l).K ∧ inI (itOf l).V := by
  have h1 := num0_range (l.take 2) 2 (by rw [List.length_take]; omega)
  have h2 := num0_range ((l.drop 2).take 8) 8 (by rw [List.length_take]; omega)
  unfold itOf inI
  simp only
  omega
theorem itsOf_in (l : List UInt8) (k : Nat) : ∀ t ∈ itsOf l k, inI t.K ∧ inI t.V := by
  intro t ht
  unfold itsOf at ht
  rw [List.mem_map] at ht
  obtain ⟨i, _, rfl⟩ := ht
  exact itOf_in _

theorem readF_err (c : Cf) (l b : List UInt8) (e : Int) (h : openP l = (b, e)) (he : e ≠ 0) : readF c l = (zeroF, e) := by unfold readF; rw [h]; simp [he]
theorem readF_ok (c : Cf) (l b : List UInt8) (h : openP l = (b, 0)) : readF c l = readB c b := by unfold readF; rw [h]; simp
theorem readB_cut (c : Cf) (b : List UInt8) (h : b.length < 34) : readB c b = (zeroF, 3) := by unfold readB; rw [if_pos h]
theorem readB_long (c : Cf) (b : List UInt8) (h : ¬ b.length < 34) (h2 : (b.length : Int) - 34 ≠ 10 * echoI c (frOf b).K (frOf b).S) : readB c b = (zeroF, 2) := by unfold readB; rw [if_neg h, if_pos h2]
theorem readB_check (c : Cf) (b : List UInt8) (h : ¬ b.length < 34) (h2 : (b.length : Int) - 34 = 10 * echoI c (frOf b).K (frOf b).S) (e : Int) (he : checkF c ((frOf b).with (itsOf (b.drop 34) ((b.length - 34) / 10))) = e) (h3 : e ≠ 0) : readB c b = (zeroF, e) := by
  unfold readB
  rw [if_neg h, if_neg (by omega), he, if_pos h3]
theorem readB_ok (c : Cf) (b : List UInt8) (h : ¬ b.length < 34) (h2 : (b.length : Int) - 34 = 10 * echoI c (frOf b).K (frOf b).S) (he : checkF c ((frOf b).with (itsOf (b.drop 34) ((b.length - 34) / 10))) = 0) : readB c b = ((frOf b).with (itsOf (b.drop 34) ((b.length - 34) / 10)), 0) := by
  unfold readB
  rw [if_neg h, if_neg (by omega), he, if_neg (by simp)]

/-- Where the frame that is read stands, boxed at g. -/
def ReadG (c : Cf) (ca : Option Addr) (cc : Nat) (K R S PK PV : Int) (w : World) (g : Nat) (v : Value) (wx : World) : Prop :=
  Below w.heap.size w wx ∧ Blk wx w.heap.size 24 (confBox c ca cc) ∧ Blk wx (w.heap.size + 1) 29 zeroBox ∧ w.heap.size + 1 < g ∧
    Blk wx g 29 #[.int .i64 K, .int .i64 R, .int .i64 S, .int .i64 PK, .int .i64 PV, v]

/-- What holds on while the frame's parts are read. -/
def HeldR (c : Cf) (ca : Option Addr) (cc : Nat) (w W : World) : Prop := Below w.heap.size w W ∧ Blk W w.heap.size 24 (confBox c ca cc) ∧ Blk W (w.heap.size + 1) 29 zeroBox
theorem HeldR.next {c : Cf} {ca : Option Addr} {cc : Nat} {w W W' : World} (h : HeldR c ca cc w W) (hb : Below W.heap.size W W') : HeldR c ca cc w W' := ⟨h.1.trans (hb.mono h.1.size), h.2.1.later hb, h.2.2.later hb⟩

theorem HeldR.set {c : Cf} {ca : Option Addr} {cc : Nat} {w W : World} (h : HeldR c ca cc w W) {g : Nat} (hg : w.heap.size + 1 < g) (k : Nat) (u : Value) : HeldR c ca cc w (W.setCell ⟨g, k, none⟩ u) :=
  ⟨h.1.setCell (by show w.heap.size ≤ g; omega) u, h.2.1.far (by show w.heap.size ≠ g; omega) u, h.2.2.far (by show w.heap.size + 1 ≠ g; omega) u⟩

theorem readG_alloc {c : Cf} {ca : Option Addr} {cc : Nat} {w wn wm : World} (K R S PK PV : Int) (h : HeldR c ca cc w wn) (hb : Below wn.drew.heap.size wn.drew wm) :
    ReadG c ca cc K R S PK PV w wm.heap.size (.slice none 0 0) (wm.alloc (.cells #[.int .i64 K, .int .i64 R, .int .i64 S, .int .i64 PK, .int .i64 PV, .slice none 0 0] 29)) := by
  have h2 := (h.next (Below.refl _ wn).drew).next hb
  exact ⟨h2.1.alloc h2.1.size _, h2.2.1.alloc _, h2.2.2.alloc _, h2.2.2.lt, Blk.new wm _ _⟩

theorem readG_set {c : Cf} {ca : Option Addr} {cc : Nat} {w wn wm : World} (K R S PK PV : Int) (h : HeldR c ca cc w wn) (hb : Below (wn.alloc (.cells zeroBox 29)).drew.heap.size (wn.alloc (.cells zeroBox 29)).drew wm) (hx : Blk wm wn.heap.size 29 zeroBox) :
    ReadG c ca cc K R S PK PV w wn.heap.size (.slice none 0 0) ((((((wm.setCell ⟨wn.heap.size, 0, none⟩ (.int .i64 K)).setCell ⟨wn.heap.size, 1, none⟩ (.int .i64 R)).setCell ⟨wn.heap.size, 2, none⟩ (.int .i64 S)).setCell
        ⟨wn.heap.size, 3, none⟩ (.int .i64 PK)).setCell ⟨wn.heap.size, 4, none⟩ (.int .i64 PV)).setCell ⟨wn.heap.size, 5, none⟩ (.slice none 0 0)) := by
  have hg := h.2.2.lt
  have h2 := ((h.next (alloc_below wn _)).next (Below.refl _ _).drew).next hb
  have h3 := ((((((h2.set hg 0 (.int .i64 K)).set hg 1 (.int .i64 R)).set hg 2 (.int .i64 S)).set hg 3 (.int .i64 PK)).set hg 4 (.int .i64 PV)).set hg 5 (.slice none 0 0))
  exact ⟨h3.1, h3.2.1, h3.2.2, hg, ((((((hx.set 0 (.int .i64 K)).set 1 (.int .i64 R)).set 2 (.int .i64 S)).set 3 (.int .i64 PK)).set 4 (.int .i64 PV)).set 5 (.slice none 0 0))⟩

/-- The loop over the items. -/
def ReadAt (c : Cf) (ca : Option Addr) (cc : Nat) (K R S PK PV : Int) (b : List UInt8) (w : World) (g : Nat) (i : Value) (wx : World) : Prop :=
  ∃ (k p : Nat) (v : Value), p = 34 + 10 * k ∧ p ≤ b.length ∧ i = .int .i64 p ∧ ReadG c ca cc K R S PK PV w g v wx ∧ OwnT (g + 1) wx v (itsOf (b.drop 34) k)

attribute [local irreducible] num0 itOf

set_option maxHeartbeats 6400000 in
theorem rRead_any2 (c : Cf) (ca : Option Addr) (cc : Nat) (l : List UInt8) (w : World) (hc : c.Ok) (hs : l.length ≤ 1048576) :
    Calls Tryd.prog 35 #[.agg #[.int .i64 c.N, .int .i64 c.Pi, .int .i64 c.E, .int .i64 c.G, .int .i64 c.F, .slice ca c.P.length cc], .string ⟨l.toArray⟩] w (ReadRet2 (readF c l) w) := by
  obtain ⟨b, er, hbe⟩ : ∃ b e, openP l = (b, e) := ⟨_, _, rfl⟩
  have hbl := open_len l
  rw [hbe] at hbl
  simp only at hbl
  have HO := Lib.hid (fun W => ropen_any l W hs)
  have HQ := Lib.hid (show openR l = .tuple #[.string ⟨b.toArray⟩, .int .i64 er] by unfold openR; rw [hbe])
  rw [HQ.out] at HO
  have hB0 : Below w.heap.size w ((w.alloc (.cells #[.int .i64 c.N, .int .i64 c.Pi, .int .i64 c.E, .int .i64 c.G, .int .i64 c.F, .slice ca c.P.length cc] 24)).alloc (.cells zeroBox 29)) := (alloc_below w _).alloc (by simp) _
  have hC0 : Blk ((w.alloc (.cells #[.int .i64 c.N, .int .i64 c.Pi, .int .i64 c.E, .int .i64 c.G, .int .i64 c.F, .slice ca c.P.length cc] 24)).alloc (.cells zeroBox 29)) w.heap.size 24 (confBox c ca cc) := (Blk.new w _ _).alloc _
  have hZ0 : Blk ((w.alloc (.cells #[.int .i64 c.N, .int .i64 c.Pi, .int .i64 c.E, .int .i64 c.G, .int .i64 c.F, .slice ca c.P.length cc] 24)).alloc (.cells zeroBox 29)) (w.heap.size + 1) 29 zeroBox := Blk.newAt _ _ (by simp)
  by_cases he : er = 0
  · subst he
    have HR := Lib.hid (readF_ok c l b hbe)
    clear hbe HQ
    by_cases h34 : b.length < 34
    · have HF := Lib.hid (show readF c l = (zeroF, 3) by rw [HR.out, readB_cut c b h34])
      have d1 : decide ((b.length : Int) < 34) = true := by simp; omega
      go_enter Tryd.func35, Tryd.ntmps35
      go_wp2_with fail
      refine (HO.out _).mono ?_
      rintro e wn ⟨rfl, hb⟩
      have hB := hB0.trans (hb.mono hB0.size)
      have hZ := hZ0.later hb
      have hQ := hZ.at
      have hF := hZ.frozen
      unfold zeroBox at hQ
      go_wp2
      exact read_end zeroF 3 w wn none 0 hB hZ (OwnT.nil _ _) (by decide) (fun t ht => by simp [zeroF] at ht) HF.out
    · have h34' : (34 : Int) ≤ (b.length : Int) := by omega
      have d1 : decide ((b.length : Int) < 34) = false := by simp; omega
      go_enter Tryd.func35, Tryd.ntmps35
      go_wp2_with fail
      refine (HO.out _).mono ?_
      rintro e wn ⟨rfl, hb⟩
      have hH : HeldR c ca cc w wn := HeldR.next ⟨hB0, hC0, hZ0⟩ hb
      clear hb hB0 hC0 hZ0 HO
      go_upto_region 6 with fail
      go_cut [8] (fun s8 wx => ∃ g, s8 = .pointer (some ⟨g, 0, none⟩) ∧ ReadG c ca cc (num0 (b.take 2)) (num0 ((b.drop 2).take 16)) (num0 ((b.drop 18).take 6)) (itOf ((b.drop 24).take 10)).K (itOf ((b.drop 24).take 10)).V w g (.slice none 0 0) wx)
      case first =>
        have s1 : (2 : Int) ≤ (b.length : Int) := by omega
        have s2 : (18 : Int) ≤ (b.length : Int) := by omega
        have s3 : (24 : Int) ≤ (b.length : Int) := by omega
        have hg := hH.2.2.lt
        go_region_held3 (fun W => True) (trivial)
          (first
          | (go_at_call 49; refine (rnumber_any _ _ ?_).mono ?_; (simp; omega); rintro e wl ⟨rfl, rfl⟩)
          | (go_at_call 50; refine (rread_any _ _ ?_ ?_).mono ?_; (simp; omega); (simp; omega); rintro e wm ⟨rfl, hbm⟩; (try have hx := (Blk.drew1 (Blk.new wn 29 zeroBox)).later hbm); (try have hxq := hx.at); (try have hxf := hx.frozen); (try unfold zeroBox at hxq)))
        all_goals go_wp2_with fail
        all_goals go_meet
        all_goals refine ⟨_, rfl, ?_⟩
        all_goals first
          | (have hx2 := hx; exact readG_set _ _ _ _ _ hH hbm hx2)
          | exact readG_alloc _ _ _ _ _ hH hbm
      case rest =>
        obtain ⟨g, rfl, hG⟩ := hcut
        clear hH
        have HFr := Lib.hid (show frOf b = ⟨num0 (b.take 2), num0 ((b.drop 2).take 16), num0 ((b.drop 18).take 6), itOf ((b.drop 24).take 10), []⟩ from rfl)
        generalize num0 (b.take 2) = fK at *
        generalize num0 ((b.drop 2).take 16) = fR at *
        generalize num0 ((b.drop 18).take 6) = fS at *
        generalize itOf ((b.drop 24).take 10) = ft at *
        have HL := Lib.hid (show (b.length : Int) - 34 ≠ 10 * echoI c fK fS → readF c l = (zeroF, 2) from fun h => by rw [HR.out]; exact readB_long c b h34 (by rw [HFr.out]; exact h))
        have HC := Lib.hid (show ∀ e, (b.length : Int) - 34 = 10 * echoI c fK fS → checkF c ⟨fK, fR, fS, ft, itsOf (b.drop 34) ((b.length - 34) / 10)⟩ = e → e ≠ 0 → readF c l = (zeroF, e) from fun e h h2 h3 => by
          rw [HR.out]; exact readB_check c b h34 (by rw [HFr.out]; exact h) e (by rw [HFr.out]; exact h2) h3)
        have HK := Lib.hid (show (b.length : Int) - 34 = 10 * echoI c fK fS → checkF c ⟨fK, fR, fS, ft, itsOf (b.drop 34) ((b.length - 34) / 10)⟩ = 0 → readF c l = (⟨fK, fR, fS, ft, itsOf (b.drop 34) ((b.length - 34) / 10)⟩, 0) from fun h h2 => by
          rw [HR.out, readB_ok c b h34 (by rw [HFr.out]; exact h) (by rw [HFr.out]; exact h2), HFr.out]; rfl)
        clear HFr HR
        obtain ⟨hB, hC, hZ, hgt, hg⟩ := hG
        have q1 := hC.at
        unfold confBox at q1
        have q3 := hg.at
        have he : 0 ≤ echoI c fK fS ∧ echoI c fK fS ≤ 15 := by
          have := hc.n6; have := hc.n12; have := hc.len
          unfold echoI slotsI
          split <;> omega
        obtain ⟨he0, he1⟩ := he
        go_wp2_with fail
        refine (rechoes_any c ca cc _ _ _ hc).mono ?_
        rintro e wm ⟨rfl, hb⟩
        replace hB := hB.trans (hb.mono hB.size)
        replace hC := hC.later hb
        replace hZ := hZ.later hb
        replace hg := hg.later hb
        clear hb q1 q3
        generalize echoI c fK fS = en at *
        by_cases hL : (b.length : Int) - 34 = 10 * en
        · have d2 : ((b.length : Int) - 34 != 10 * en) = false := by simpa using hL
          replace HC := Lib.hid (fun e => HC.out e hL)
          replace HK := Lib.hid (HK.out hL)
          clear HL
          have hmod : ∃ q : Nat, b.length = 34 + 10 * q ∧ (b.length - 34) / 10 = q := ⟨(b.length - 34) / 10, by omega, rfl⟩
          obtain ⟨q, hq, hq2⟩ := hmod
          rw [hq2] at HC HK
          have Hq := Lib.hid hq
          have hlb : b.length ≤ 184 := by omega
          clear hL hq hq2
          go_wp2
          go_loopw [9] (fun i w' => ReadAt c ca cc fK fR fS ft.K ft.V b w g i w') (fun i _ => b.length - (intOf i).toNat)
          case atStart => exact ⟨0, 34, _, rfl, by omega, rfl, ⟨hB, hC, hZ, hgt, hg⟩, OwnT.nil _ _⟩
          case round =>
            clear hB hC hZ hg
            obtain ⟨k, p, v, hp, hpl, rfl, ⟨hB, hC, hZ, _, hg⟩, hown⟩ := hrel
            have Hp := Lib.hid hp
            clear hp
            have q3 := hg.at
            have f3 := hg.frozen
            by_cases hlt : p < b.length
            · have dk : decide (p < b.length) = true := by simpa using hlt
              have hp10 : p + 10 ≤ b.length := by have := Hp.out; have := Hq.out; omega
              have HS := Lib.hid (show itsOf (b.drop 34) (k + 1) = itsOf (b.drop 34) k ++ [itOf ((b.drop p).take 10)] by rw [itsOf_succ, List.drop_drop, Hp.out])
              have hll : (itsOf (b.drop 34) k).length ≤ 1000 := by rw [itsOf_len]; have := Hp.out; omega
              have g0 : (0 : Int) ≤ (p : Int) := by omega
              have g1 : (p : Int) + 10 ≤ (b.length : Int) := by omega
              have z0 : IntKind.i64.wrap ((p : Int) + 10) = (p : Int) + 10 := wrap_in _ (by omega) (by omega)
              have z1 : (0 : Int) ≤ (p : Int) + 10 := by omega
              have z2 : (p : Int) ≤ (p : Int) + 10 := by omega
              have z3 : ((p : Int) + 10).toNat - p = 10 := by omega
              have HR2 := Lib.hid (fun W => rread_any ((b.drop p).take 10) W (by simp; omega) (by simp; omega))
              generalize itsOf (b.drop 34) k = TS at *
              generalize itOf ((b.drop p).take 10) = t at *
              obtain ⟨av, cv, rfl⟩ := hown.form
              have hol := hown.lt
              have hglt := hg.lt
              have hsz := hB.size
              go_wp2_with fail
              go_region_law (first
                | (refine step_appT _ (by rfl) (.tmp 55) (.tmp 62) (by rfl) (g + 1) (.slice av TS.length cv) TS (by simp [Act.eval]) (hown.later (((Below.refl _ wr).drew.trans hb).alloc hb.size _)) wl.heap.size 1 t (by simp [Act.eval]) (heap_alloc_new _ _) (by omega) (by have h0 : wr.heap.size ≤ wl.heap.size := hb.size; simp; omega) ?_; intro g' cap' w2 h1' h2' h3' h4'; have k3w := (Blk.alloc k3l (.cells #[.int .i64 t.K, .int .i64 t.V] 26)).grown h2' (fun e => by have := (hol _ e.symm).1; omega); have q3w := k3w.at 5; have f3w := k3w.frozen 5)
                | (go_simp; go_at_call 50; refine (HR2.out _).mono ?_; rintro e wl ⟨rfl, hb⟩; have k3l := (Blk.drew1 hg).later hb; have q3l := k3l.at 5; have q3m := fun o : Obj => (k3l.alloc o).at 5))
              all_goals
                have hG : ∀ g', (Value.slice av TS.length cv).ownBlock = some g' → w.heap.size ≤ g' := fun g' hg' => by have := (hol g' hg').1; omega
                have h0 : wr.heap.size ≤ wl.heap.size := hb.size
                go_wp2
                go_roundw
                case rel =>
                  refine ⟨k + 1, p + 10, _, by have := Hp.out; omega, hp10, by go_num, ⟨?_, ?_, ?_, hgt, k3w.set 5 _⟩, ?_⟩
                  · exact (below_grown (((hB.drew.trans (hb.mono hsz))).alloc (by omega) _) (by simp; omega) h2' hG).setCell (by show w.heap.size ≤ g; omega) _
                  · exact ((Blk.alloc ((Blk.drew1 hC).later hb) _).grown h2' (fun e => by have := (hol _ e.symm).1; omega)).far (by show w.heap.size ≠ g; omega) _
                  · exact ((Blk.alloc ((Blk.drew1 hZ).later hb) _).grown h2' (fun e => by have := (hol _ e.symm).1; omega)).far (by show w.heap.size + 1 ≠ g; omega) _
                  · rw [HS.out]
                    exact h1'.far ⟨g, 5, none⟩ _ (by simp)
                case measure => simp [intOf]; omega
            · have dk : decide (p < b.length) = false := by simpa using hlt
              have hkq : k = q := by have := Hp.out; have := Hq.out; omega
              subst hkq
              have hq5 : k ≤ 15 := by have := Hq.out; omega
              have hin := itsOf_in (b.drop 34) k
              have hll : (itsOf (b.drop 34) k).length ≤ 1000000 := by rw [itsOf_len]; omega
              generalize itsOf (b.drop 34) k = TS at *
              obtain ⟨av, cv, rfl⟩ := hown.form
              have q1 := hC.at
              unfold confBox at q1
              have hrT := hown.row (by omega) hin
              have HCk := Lib.hid (fun W (h : RowT W av TS) => rCheck5_any c ca cc ⟨fK, fR, fS, ft, TS⟩ av cv W hc h)
              cases hce : (checkF c ⟨fK, fR, fS, ft, TS⟩ == 0)
              · have hce' : checkF c ⟨fK, fR, fS, ft, TS⟩ ≠ 0 := by simpa using hce
                have HF := Lib.hid (HC.out _ rfl hce')
                have d3 : (checkF c ⟨fK, fR, fS, ft, TS⟩ != 0) = true := by rw [bne, hce]; rfl
                clear hce hce' HC HK
                generalize checkF c ⟨fK, fR, fS, ft, TS⟩ = er at *
                go_wp2_with fail
                refine (HCk.out _ hrT).mono ?_
                rintro e wq ⟨rfl, hb⟩
                replace hB := hB.trans (hb.mono hB.size)
                replace hZ := hZ.later hb
                have hQ := hZ.at
                have hF := hZ.frozen
                unfold zeroBox at hQ
                clear q1 q3 f3
                go_wp2
                exact read_end zeroF er w wq none 0 hB hZ (OwnT.nil _ _) (by decide) (fun t ht => by simp [zeroF] at ht) HF.out
              · have hce' : checkF c ⟨fK, fR, fS, ft, TS⟩ = 0 := by simpa using hce
                have HF := Lib.hid (HK.out hce')
                rw [hce'] at HCk
                clear hce hce' HC HK
                have hown2 : OwnT (w.heap.size + 2) wr (.slice av TS.length cv) TS := by
                  refine ⟨hown.1, ?_⟩
                  rcases hown.2 with h | ⟨g', cap', cur, h1, h2, h3⟩
                  · exact .inl h
                  · exact .inr ⟨g', cap', cur, h1, by omega, h3⟩
                go_wp2_with fail
                refine (HCk.out _ hrT).mono ?_
                rintro e wq ⟨rfl, hb⟩
                replace hB := hB.trans (hb.mono hB.size)
                replace hZ := hZ.later hb
                replace hg := hg.later hb
                have hown3 := hown2.later hb
                have hQ := hZ.at
                have hF := hZ.frozen
                unfold zeroBox at hQ
                clear q1 q3 f3
                have q3 := hg.at
                go_wp2
                exact read_end ⟨fK, fR, fS, ft, TS⟩ 0 w wq av cv hB hZ hown3 (by omega) hin HF.out
        · have d2 : ((b.length : Int) - 34 != 10 * en) = true := by simpa using hL
          have HF := Lib.hid (HL.out hL)
          have hQ := hZ.at
          have hF := hZ.frozen
          unfold zeroBox at hQ
          go_wp2
          exact read_end zeroF 2 w wm none 0 hB hZ (OwnT.nil _ _) (by decide) (fun t ht => by simp [zeroF] at ht) HF.out
  · have HF := Lib.hid (readF_err c l b er hbe he)
    have d1 : (er != 0) = true := by simpa using he
    clear he hbe HQ
    go_enter Tryd.func35, Tryd.ntmps35
    go_wp2_with fail
    refine (HO.out _).mono ?_
    rintro e wn ⟨rfl, hb⟩
    have hB := hB0.trans (hb.mono hB0.size)
    have hZ := hZ0.later hb
    have hQ := hZ.at
    have hF := hZ.frozen
    unfold zeroBox at hQ
    go_wp2
    exact read_end zeroF er w wn none 0 hB hZ (OwnT.nil _ _) (by decide) (fun t ht => by simp [zeroF] at ht) HF.out

theorem rRead_any (c : Cf) (ca : Option Addr) (cc : Nat) (l : List UInt8) (w : World) (hc : c.Ok) (hrow : Row w ca c.P) (hs : l.length ≤ 1048576) :
    Calls Tryd.prog 35 #[.agg #[.int .i64 c.N, .int .i64 c.Pi, .int .i64 c.E, .int .i64 c.G, .int .i64 c.F, .slice ca c.P.length cc], .string ⟨l.toArray⟩] w (ReadRet (readF c l) w) :=
  (rRead_any2 c ca cc l w hc hs).mono fun e w' ⟨a, cap, h1, h2, h3, _, h5⟩ => ⟨a, cap, h1, h2, h3, h5⟩

end Go.Proofs.YtkflijbhlibadabDoor
/-
  plaitinglaw5's own helpers: within, Item, Few.
-/
namespace Go.Proofs.YtkflijbhlibadabDoor
open Go.RowKit Plait
set_option maxRecDepth 100000
set_option linter.unusedVariables false

theorem within5_any (a n : Int) (w : World) (hn : 0 < n) (hn2 : n ≤ 1099511627776) :
    Calls Tryd.prog 25 #[.int .i64 a, .int .i64 n] w fun e w' => e = .returned (.int .i64 (a % n)) ∧ w = w' := by
  have b1 : 0 ≤ a % n := Int.emod_nonneg _ (by omega)
  have b2 : a % n < n := Int.emod_lt_of_pos _ hn
  by_cases h0 : 0 ≤ a
  · go_enter Tryd.func25, Tryd.ntmps25
    go_wp2
    go_ret
    exact ⟨rfl, rfl⟩
  · have h1 : a.tmod n = -((-a) % n) := by
      rw [show a = -(-a) by omega, Int.neg_tmod, Int.tmod_eq_emod_of_nonneg (by omega)]; simp
    have c1 : 0 ≤ (-a) % n := Int.emod_nonneg _ (by omega)
    have c2 : (-a) % n < n := Int.emod_lt_of_pos _ hn
    by_cases hz : (-a) % n = 0
    · have h2 : a.tmod n = 0 := by rw [h1, hz]; rfl
      have HF := Lib.hid (show (0 : Int) = a % n by
        have : n ∣ -a := Int.dvd_of_emod_eq_zero hz
        exact (Int.emod_eq_zero_of_dvd (Int.dvd_neg.1 this)).symm)
      clear h1 hz c1 c2 b1 b2
      go_enter Tryd.func25, Tryd.ntmps25
      go_wp2
      go_ret
      exact ⟨ret_int HF.out, rfl⟩
    · obtain ⟨r, hr⟩ : ∃ r, r = (-a) % n := ⟨_, rfl⟩
      rw [← hr] at h1 c1 c2 hz
      have HF := Lib.hid (show -r + n = a % n by
        have e := Int.emod_add_mul_ediv (-a) n
        rw [← hr] at e
        have e2 : a = (-r + n) + n * (-((-a) / n) - 1) := by rw [Int.mul_sub, Int.mul_neg]; omega
        rw [e2, Int.add_mul_emod_self_left]
        exact (Int.emod_eq_of_lt (by omega) (by omega)).symm)
      clear hr b1 b2
      go_enter Tryd.func25, Tryd.ntmps25
      go_wp2
      go_ret
      exact ⟨ret_int HF.out, rfl⟩

theorem tdiv3 (n : Int) (h1 : -9223372036854775808 ≤ n) (h2 : n ≤ 9223372036854775807) : -9223372036854775808 ≤ n.tdiv 3 ∧ n.tdiv 3 ≤ 9223372036854775807 := by
  rcases Int.le_total 0 n with h | h
  · rw [Int.tdiv_eq_ediv_of_nonneg h]; omega
  · have e : n.tdiv 3 = -((-n) / 3) := by rw [show n = -(-n) by omega, Int.neg_tdiv, Int.tdiv_eq_ediv_of_nonneg (by omega)]; simp
    rw [e]; omega

set_option maxHeartbeats 1600000 in
theorem item5_any (n : Int) (b : Bool) (w : World) (h1 : -9223372036854775808 ≤ n) (h2 : n ≤ 9223372036854775807) :
    Calls Tryd.prog 26 #[.int .i64 n, .bool b] w fun e w' => e = .returned (.agg #[.int .i64 (itemOf n b).K, .int .i64 (itemOf n b).V]) ∧ Below w.heap.size w w' := by
  obtain ⟨t1, t2⟩ := tdiv3 n h1 h2
  have hm0 : 0 ≤ n % 3 := by omega
  have hm3 : n % 3 < 3 := by omega
  have HW := Lib.hid (fun W => within5_any (n.tdiv 3) 256 W (by omega) (by omega))
  have HM := Lib.hid (fun W => within5_any n 3 W (by omega) (by omega))
  have HI := Lib.hid (show itemOf n b = if (if b && n % 3 == 0 then 2 else n % 3) = 2 then ⟨2, n.tdiv 3 % 256⟩ else ⟨n % 3, 0⟩ from rfl)
  generalize n.tdiv 3 % 256 = v at *
  rcases (by omega : n % 3 = 0 ∨ n % 3 = 1 ∨ n % 3 = 2) with h | h | h
  · rw [h] at HM HI
    cases b
    · have HF := Lib.hid (show itemOf n false = ⟨0, 0⟩ by rw [HI.out]; rfl)
      go_enter Tryd.func26, Tryd.ntmps26
      go_wp2_with fail
      refine (HM.out _).mono ?_
      rintro e wl ⟨rfl, rfl⟩
      go_wp2
      refine bodyPost_ret (v := .agg #[.int .i64 0, .int .i64 0]) (by simp [results, Tryd.results26, go_sem]) rfl ⟨by rw [HF.out], alloc_below _ _⟩
    · have HF := Lib.hid (show itemOf n true = ⟨2, v⟩ by rw [HI.out]; rfl)
      go_enter Tryd.func26, Tryd.ntmps26
      go_wp2_with fail
      refine (HM.out _).mono ?_
      rintro e wl ⟨rfl, rfl⟩
      go_wp2_with fail
      refine (HW.out _).mono ?_
      rintro e wl ⟨rfl, rfl⟩
      go_wp2
      refine bodyPost_ret (v := .agg #[.int .i64 2, .int .i64 v]) (by simp [results, Tryd.results26, go_sem]) rfl ⟨by rw [HF.out], alloc_below _ _⟩
  · rw [h] at HM HI
    have HF := Lib.hid (show itemOf n b = ⟨1, 0⟩ by rw [HI.out]; cases b <;> rfl)
    cases b
    all_goals
      go_enter Tryd.func26, Tryd.ntmps26
      go_wp2_with fail
      refine (HM.out _).mono ?_
      rintro e wl ⟨rfl, rfl⟩
      go_wp2
      refine bodyPost_ret (v := .agg #[.int .i64 1, .int .i64 0]) (by simp [results, Tryd.results26, go_sem]) rfl ⟨by rw [HF.out], alloc_below _ _⟩
  · rw [h] at HM HI
    have HF := Lib.hid (show itemOf n b = ⟨2, v⟩ by rw [HI.out]; cases b <;> rfl)
    cases b
    all_goals
      go_enter Tryd.func26, Tryd.ntmps26
      go_wp2_with fail
      refine (HM.out _).mono ?_
      rintro e wl ⟨rfl, rfl⟩
      go_wp2_with fail
      refine (HW.out _).mono ?_
      rintro e wl ⟨rfl, rfl⟩
      go_wp2
      refine bodyPost_ret (v := .agg #[.int .i64 2, .int .i64 v]) (by simp [results, Tryd.results26, go_sem]) rfl ⟨by rw [HF.out], alloc_below _ _⟩

end Go.Proofs.YtkflijbhlibadabDoor
/-
  plaitinglaw5's Make.
-/
namespace Go.Proofs.YtkflijbhlibadabDoor
open Go.RowKit Plait
set_option maxRecDepth 100000
set_option linter.unusedVariables false

/-- What a call answers that makes a frame. -/
def FrRet (f : Fr) (w : World) (e : Ending) (w' : World) : Prop :=
  ∃ (a : Option Addr) (cap : Nat), e = .returned (.agg #[.int .i64 f.K, .int .i64 f.R, .int .i64 f.S, .int .i64 f.P.K, .int .i64 f.P.V, .slice a f.E.length cap]) ∧ RowT w' a f.E ∧ (∀ x, a = some x → w.heap.size ≤ x.block) ∧ Below w.heap.size w w'


theorem OwnT.weak {base base' : Nat} {w : World} {v : Value} {ts : List It} (h : OwnT base w v ts) (hb : base' ≤ base) : OwnT base' w v ts := by
  refine ⟨h.1, ?_⟩
  rcases h.2 with h | ⟨g, cap, cur, h1, h2, h3⟩
  · exact .inl h
  · exact .inr ⟨g, cap, cur, h1, by omega, h3⟩

/-- The same, and that the row is the call's own. -/
def FrRet2 (f : Fr) (w : World) (e : Ending) (w' : World) : Prop :=
  ∃ (a : Option Addr) (cap : Nat), e = .returned (.agg #[.int .i64 f.K, .int .i64 f.R, .int .i64 f.S, .int .i64 f.P.K, .int .i64 f.P.V, .slice a f.E.length cap]) ∧ RowT w' a f.E ∧ (∀ x, a = some x → w.heap.size ≤ x.block) ∧ OwnT w.heap.size w' (.slice a f.E.length cap) f.E ∧ Below w.heap.size w w'

/-- Make's last step: g is laid into the result's place. -/
theorem make5_end (f : Fr) (w wr : World) (av : Option Addr) (cv : Nat) (hB : Below w.heap.size w wr) (k2 : Blk wr (w.heap.size + 2) 29 zeroBox)
    (hown : OwnT (w.heap.size + 3) wr (.slice av f.E.length cv) f.E) (hl : f.E.length ≤ 1000000) (hz : ∀ t ∈ f.E, inI t.K ∧ inI t.V) {f' : Fr} (hp : f' = f) {a : Act}
    (h6 : a.tmps[6]? = some (.pointer (some ⟨w.heap.size + 2, 0, none⟩)) := by rfl) (hd : a.defers = [] := by rfl) :
    bodyPost Tryd.prog Tryd.f12 (FrRet2 f' w) Exit.ret a
      ((((((wr.setCell ⟨w.heap.size + 2, 0, none⟩ (.int .i64 f.K)).setCell ⟨w.heap.size + 2, 1, none⟩ (.int .i64 f.R)).setCell ⟨w.heap.size + 2, 2, none⟩ (.int .i64 f.S)).setCell
        ⟨w.heap.size + 2, 3, none⟩ (.int .i64 f.P.K)).setCell ⟨w.heap.size + 2, 4, none⟩ (.int .i64 f.P.V)).setCell ⟨w.heap.size + 2, 5, none⟩ (.slice av f.E.length cv)) := by
  subst hp
  unfold zeroBox at k2
  have kk := ((((((k2.set 0 (.int .i64 f'.K)).set 1 (.int .i64 f'.R)).set 2 (.int .i64 f'.S)).set 3 (.int .i64 f'.P.K)).set 4 (.int .i64 f'.P.V)).set 5 (.slice av f'.E.length cv))
  have hb2 := (((((hB.setCell (p := ⟨w.heap.size + 2, 0, none⟩) (by simp) (.int .i64 f'.K)).setCell (p := ⟨w.heap.size + 2, 1, none⟩) (by simp) (.int .i64 f'.R)).setCell (p := ⟨w.heap.size + 2, 2, none⟩) (by simp) (.int .i64 f'.S)).setCell
    (p := ⟨w.heap.size + 2, 3, none⟩) (by simp) (.int .i64 f'.P.K)).setCell (p := ⟨w.heap.size + 2, 4, none⟩) (by simp) (.int .i64 f'.P.V)).setCell (p := ⟨w.heap.size + 2, 5, none⟩) (by simp) (.slice av f'.E.length cv)
  have ho := (((((hown.far ⟨w.heap.size + 2, 0, none⟩ (.int .i64 f'.K) (by simp)).far ⟨w.heap.size + 2, 1, none⟩ (.int .i64 f'.R) (by simp)).far ⟨w.heap.size + 2, 2, none⟩ (.int .i64 f'.S) (by simp)).far
    ⟨w.heap.size + 2, 3, none⟩ (.int .i64 f'.P.K) (by simp)).far ⟨w.heap.size + 2, 4, none⟩ (.int .i64 f'.P.V) (by simp)).far ⟨w.heap.size + 2, 5, none⟩ (.slice av f'.E.length cv) (by simp)
  generalize (((((wr.setCell _ _).setCell _ _).setCell _ _).setCell _ _).setCell _ _).setCell _ _ = W at *
  have q := kk.at
  simp at q
  refine bodyPost_ret (v := .agg #[.int .i64 f'.K, .int .i64 f'.R, .int .i64 f'.S, .int .i64 f'.P.K, .int .i64 f'.P.V, .slice av f'.E.length cv]) (by simp [results, Tryd.results12, go_sem, h6, q]) hd ⟨av, cv, rfl, ho.row (by omega) hz, ?_, ho.weak (by omega), hb2⟩
  intro x hx
  have := (ho.lt x.block (by rw [hx]; rfl)).1
  omega

/-- What holds on in Make: the boxes of c, f and the result. -/
def HeldM (c : Cf) (ca : Option Addr) (cc : Nat) (f : Fr) (fa : Option Addr) (fc : Nat) (w W : World) : Prop :=
  Below w.heap.size w W ∧ Blk W w.heap.size 24 (confBox c ca cc) ∧ Blk W (w.heap.size + 1) 29 (frBox f fa fc) ∧ Blk W (w.heap.size + 2) 29 zeroBox
theorem HeldM.next {c : Cf} {ca : Option Addr} {cc : Nat} {f : Fr} {fa : Option Addr} {fc : Nat} {w W W' : World} (h : HeldM c ca cc f fa fc w W) (hb : Below W.heap.size W W') : HeldM c ca cc f fa fc w W' :=
  ⟨h.1.trans (hb.mono h.1.size), h.2.1.later hb, h.2.2.1.later hb, h.2.2.2.later hb⟩
theorem HeldM.set {c : Cf} {ca : Option Addr} {cc : Nat} {f : Fr} {fa : Option Addr} {fc : Nat} {w W : World} (h : HeldM c ca cc f fa fc w W) {g : Nat} (hg : w.heap.size + 2 < g) (k : Nat) (u : Value) : HeldM c ca cc f fa fc w (W.setCell ⟨g, k, none⟩ u) :=
  ⟨h.1.setCell (by show w.heap.size ≤ g; omega) u, h.2.1.far (by show w.heap.size ≠ g; omega) u, h.2.2.1.far (by show w.heap.size + 1 ≠ g; omega) u, h.2.2.2.far (by show w.heap.size + 2 ≠ g; omega) u⟩
theorem HeldM.grown {c : Cf} {ca : Option Addr} {cc : Nat} {f : Fr} {fa : Option Addr} {fc : Nat} {w W W' : World} {row : Option Nat} (h : HeldM c ca cc f fa fc w W) (hg : W.grownBy W' row) (hr : ∀ g, row = some g → w.heap.size + 2 < g) : HeldM c ca cc f fa fc w W' :=
  ⟨below_grown h.1 h.1.size hg (fun g e => by have := hr g e; omega), h.2.1.grown hg (fun e => by have := hr _ e.symm; omega), h.2.2.1.grown hg (fun e => by have := hr _ e.symm; omega), h.2.2.2.grown hg (fun e => by have := hr _ e.symm; omega)⟩

/-- Make's variable g, boxed at g. -/
def MakeV (K R S PK PV : Int) (v : Value) : Array Value := #[.int .i64 K, .int .i64 R, .int .i64 S, .int .i64 PK, .int .i64 PV, v]

theorem makeV_set {wm : World} {g : Nat} (K R S : Int) (hx : Blk wm g 29 zeroBox) :
    Blk ((((((wm.setCell ⟨g, 0, none⟩ (.int .i64 K)).setCell ⟨g, 1, none⟩ (.int .i64 R)).setCell ⟨g, 2, none⟩ (.int .i64 S)).setCell ⟨g, 3, none⟩ (.int .i64 0)).setCell ⟨g, 4, none⟩ (.int .i64 0)).setCell ⟨g, 5, none⟩ (.slice none 0 0)) g 29 (MakeV K R S 0 0 (.slice none 0 0)) :=
  ((((((hx.set 0 (.int .i64 K)).set 1 (.int .i64 R)).set 2 (.int .i64 S)).set 3 (.int .i64 0)).set 4 (.int .i64 0)).set 5 (.slice none 0 0))

theorem sm_of {c : Cf} {ca : Option Addr} {cc : Nat} {f : Fr} {fa : Option Addr} {fc : Nat} {w W : World} (h : HeldM c ca cc f fa fc w W) : W.cell? ⟨w.heap.size + 1, 0, none⟩ = some (.int .i64 f.K) ∧ W.cell? ⟨w.heap.size + 1, 1, none⟩ = some (.int .i64 f.R) ∧ W.cell? ⟨w.heap.size + 1, 2, none⟩ = some (.int .i64 f.S) ∧ W.cell? ⟨w.heap.size, 0, none⟩ = some (.int .i64 c.N) ∧ W.cell? ⟨w.heap.size, 1, none⟩ = some (.int .i64 c.Pi) ∧ W.cell? ⟨w.heap.size, 2, none⟩ = some (.int .i64 c.E) ∧ W.cell? ⟨w.heap.size, 3, none⟩ = some (.int .i64 c.G) ∧ W.cell? ⟨w.heap.size, 4, none⟩ = some (.int .i64 c.F) ∧ W.cell? ⟨w.heap.size, 5, none⟩ = some (.slice ca c.P.length cc) :=
  ⟨by rw [h.2.2.1.at]; rfl, by rw [h.2.2.1.at]; rfl, by rw [h.2.2.1.at]; rfl, by rw [h.2.1.at]; rfl, by rw [h.2.1.at]; rfl, by rw [h.2.1.at]; rfl, by rw [h.2.1.at]; rfl, by rw [h.2.1.at]; rfl, by rw [h.2.1.at]; rfl⟩
theorem sm_next {c : Cf} {ca : Option Addr} {cc : Nat} {f : Fr} {w W W' : World} (h : W.cell? ⟨w.heap.size + 1, 0, none⟩ = some (.int .i64 f.K) ∧ W.cell? ⟨w.heap.size + 1, 1, none⟩ = some (.int .i64 f.R) ∧ W.cell? ⟨w.heap.size + 1, 2, none⟩ = some (.int .i64 f.S) ∧ W.cell? ⟨w.heap.size, 0, none⟩ = some (.int .i64 c.N) ∧ W.cell? ⟨w.heap.size, 1, none⟩ = some (.int .i64 c.Pi) ∧ W.cell? ⟨w.heap.size, 2, none⟩ = some (.int .i64 c.E) ∧ W.cell? ⟨w.heap.size, 3, none⟩ = some (.int .i64 c.G) ∧ W.cell? ⟨w.heap.size, 4, none⟩ = some (.int .i64 c.F) ∧ W.cell? ⟨w.heap.size, 5, none⟩ = some (.slice ca c.P.length cc)) (hb : Below W.heap.size W W') : W'.cell? ⟨w.heap.size + 1, 0, none⟩ = some (.int .i64 f.K) ∧ W'.cell? ⟨w.heap.size + 1, 1, none⟩ = some (.int .i64 f.R) ∧ W'.cell? ⟨w.heap.size + 1, 2, none⟩ = some (.int .i64 f.S) ∧ W'.cell? ⟨w.heap.size, 0, none⟩ = some (.int .i64 c.N) ∧ W'.cell? ⟨w.heap.size, 1, none⟩ = some (.int .i64 c.Pi) ∧ W'.cell? ⟨w.heap.size, 2, none⟩ = some (.int .i64 c.E) ∧ W'.cell? ⟨w.heap.size, 3, none⟩ = some (.int .i64 c.G) ∧ W'.cell? ⟨w.heap.size, 4, none⟩ = some (.int .i64 c.F) ∧ W'.cell? ⟨w.heap.size, 5, none⟩ = some (.slice ca c.P.length cc) := by
  obtain ⟨h0, h1, h2, h3, h4, h5, h6, h7, h8⟩ := h
  have n := fun {p : Addr} {v : Value} (e : W.cell? p = some v) => (hb.cell (p := p) (World.block_lt_of_cell? W p e)).trans e
  exact ⟨n h0, n h1, n h2, n h3, n h4, n h5, n h6, n h7, n h8⟩
theorem sm_set {c : Cf} {ca : Option Addr} {cc : Nat} {f : Fr} {w W : World} (h : W.cell? ⟨w.heap.size + 1, 0, none⟩ = some (.int .i64 f.K) ∧ W.cell? ⟨w.heap.size + 1, 1, none⟩ = some (.int .i64 f.R) ∧ W.cell? ⟨w.heap.size + 1, 2, none⟩ = some (.int .i64 f.S) ∧ W.cell? ⟨w.heap.size, 0, none⟩ = some (.int .i64 c.N) ∧ W.cell? ⟨w.heap.size, 1, none⟩ = some (.int .i64 c.Pi) ∧ W.cell? ⟨w.heap.size, 2, none⟩ = some (.int .i64 c.E) ∧ W.cell? ⟨w.heap.size, 3, none⟩ = some (.int .i64 c.G) ∧ W.cell? ⟨w.heap.size, 4, none⟩ = some (.int .i64 c.F) ∧ W.cell? ⟨w.heap.size, 5, none⟩ = some (.slice ca c.P.length cc)) {g : Nat} (hg : w.heap.size + 2 < g) (k : Nat) (u : Value) : (W.setCell ⟨g, k, none⟩ u).cell? ⟨w.heap.size + 1, 0, none⟩ = some (.int .i64 f.K) ∧ (W.setCell ⟨g, k, none⟩ u).cell? ⟨w.heap.size + 1, 1, none⟩ = some (.int .i64 f.R) ∧ (W.setCell ⟨g, k, none⟩ u).cell? ⟨w.heap.size + 1, 2, none⟩ = some (.int .i64 f.S) ∧ (W.setCell ⟨g, k, none⟩ u).cell? ⟨w.heap.size, 0, none⟩ = some (.int .i64 c.N) ∧ (W.setCell ⟨g, k, none⟩ u).cell? ⟨w.heap.size, 1, none⟩ = some (.int .i64 c.Pi) ∧ (W.setCell ⟨g, k, none⟩ u).cell? ⟨w.heap.size, 2, none⟩ = some (.int .i64 c.E) ∧ (W.setCell ⟨g, k, none⟩ u).cell? ⟨w.heap.size, 3, none⟩ = some (.int .i64 c.G) ∧ (W.setCell ⟨g, k, none⟩ u).cell? ⟨w.heap.size, 4, none⟩ = some (.int .i64 c.F) ∧ (W.setCell ⟨g, k, none⟩ u).cell? ⟨w.heap.size, 5, none⟩ = some (.slice ca c.P.length cc) := by
  obtain ⟨h0, h1, h2, h3, h4, h5, h6, h7, h8⟩ := h
  have n := fun {b o : Nat} {v : Value} (hb : b < g) (e : W.cell? ⟨b, o, none⟩ = some v) => (World.cell?_setCell_other W ⟨g, k, none⟩ ⟨b, o, none⟩ u (fun e' => by injection e' with e1; omega)).trans e
  exact ⟨n (by omega) h0, n (by omega) h1, n (by omega) h2, n (by omega) h3, n (by omega) h4, n (by omega) h5, n (by omega) h6, n (by omega) h7, n (by omega) h8⟩

attribute [local irreducible] World.alloc World.drew World.setCell

/-- The loop over the items. -/
def MakeAt (c : Cf) (ca : Option Addr) (cc : Nat) (f : Fr) (fa : Option Addr) (fc : Nat) (ns : List Int) (R s PK PV : Int) (n : Nat) (w : World) (g : Nat) (i : Value) (wx : World) : Prop :=
  ∃ (k : Nat) (v : Value), i = .int .i64 k ∧ k ≤ n ∧ HeldM c ca cc f fa fc w wx ∧ Blk wx g 29 (MakeV 3 R s PK PV v) ∧ OwnT (g + 1) wx v (makeE ns k)

theorem quo_le (y : Int) (k : Nat) (hy : 0 ≤ y) : 0 ≤ y / (1 + (k : Int)) ∧ (k = 0 → y / (1 + (k : Int)) = y) ∧ (0 < k → 2 * (y / (1 + (k : Int))) ≤ y) := by
  have a1 : 0 ≤ y / (1 + (k : Int)) := Int.ediv_nonneg hy (by omega)
  refine ⟨a1, fun e => by subst e; simp, fun h => ?_⟩
  have a2 : y / (1 + (k : Int)) * (1 + (k : Int)) ≤ y := Int.ediv_mul_le _ (by omega)
  have a3 : y / (1 + (k : Int)) * 2 ≤ y / (1 + (k : Int)) * (1 + (k : Int)) := Int.mul_le_mul_of_nonneg_left (by omega) a1
  omega

theorem tdiv_in (x : Int) (k : Nat) (hk : k ≤ 100) (h : inI x) : inI (x.tdiv (1 + (k : Int)) + k) ∧ inI (x.tdiv (1 + (k : Int))) := by
  obtain ⟨h1, h2⟩ := h
  unfold inI
  rcases Int.le_total 0 x with h | h
  · rw [Int.tdiv_eq_ediv_of_nonneg h]
    obtain ⟨a1, a2, a3⟩ := quo_le x k h
    generalize x / (1 + (k : Int)) = q at *
    rcases Nat.eq_zero_or_pos k with e | e
    · have := a2 e; omega
    · have := a3 e; omega
  · have e : x.tdiv (1 + (k : Int)) = -((-x) / (1 + (k : Int))) := by
      have := Int.neg_tdiv (-x) (1 + (k : Int))
      rw [show -(-x) = x by omega] at this
      rw [this, Int.tdiv_eq_ediv_of_nonneg (by omega)]
    rw [e]
    obtain ⟨a1, a2, a3⟩ := quo_le (-x) k (by omega)
    generalize (-x) / (1 + (k : Int)) = q at *
    rcases Nat.eq_zero_or_pos k with e | e
    · have := a2 e; omega
    · have := a3 e; omega

theorem makeE_in (ns : List Int) (k : Nat) : ∀ t ∈ makeE ns k, inI t.K ∧ inI t.V := by
  intro t ht
  have := makeE_all ns k t ht
  unfold itemB at this
  unfold inI
  split at this
  · simp at this; omega
  · split at this
    · simp at this; omega
    · split at this
      · simp at this; omega
      · simp at this

set_option maxHeartbeats 6400000 in
theorem make5_any2 (c : Cf) (ca : Option Addr) (cc : Nat) (f : Fr) (fa : Option Addr) (fc : Nat) (na : Option Addr) (ns : List Int) (nc : Nat) (w : World) (hc : c.Ok) (hns : Row w na ns) (iK : inI f.K) (iR : inI f.R) (iS : inI f.S) (iV : inI f.P.V) :
    Calls Tryd.prog 12 #[.agg #[.int .i64 c.N, .int .i64 c.Pi, .int .i64 c.E, .int .i64 c.G, .int .i64 c.F, .slice ca c.P.length cc], .agg #[.int .i64 f.K, .int .i64 f.R, .int .i64 f.S, .int .i64 f.P.K, .int .i64 f.P.V, .slice fa f.E.length fc], .slice na ns.length nc] w (FrRet2 (makeF c f ns) w) := by
  have n6 := hc.n6; have n12 := hc.n12; have n3 := hc.len
  have hsl : 6 ≤ slotsI c ∧ slotsI c ≤ 15 := by unfold slotsI; omega
  obtain ⟨sl0, sl1⟩ := hsl
  obtain ⟨wn, hwn⟩ : ∃ wn, wn = ((w.alloc (.cells #[.int .i64 c.N, .int .i64 c.Pi, .int .i64 c.E, .int .i64 c.G, .int .i64 c.F, .slice ca c.P.length cc] 24)).alloc (.cells #[.int .i64 f.K, .int .i64 f.R, .int .i64 f.S, .int .i64 f.P.K, .int .i64 f.P.V, .slice fa f.E.length fc] 29)).alloc (.cells zeroBox 29) := ⟨_, rfl⟩
  have hH : HeldM c ca cc f fa fc w wn := by
    rw [hwn]
    exact ⟨((alloc_below w _).alloc (by simp) _).alloc (by simp; omega) _, ((Blk.new w _ _).alloc _).alloc _, (Blk.newAt _ _ (by simp)).alloc _, Blk.newAt _ _ (by simp)⟩
  have hwn' := hwn
  unfold zeroBox at hwn'
  go_enter Tryd.func12, Tryd.ntmps12
  go_upto_region 1 with fail
  rw [← hwn']
  clear hwn hwn'
  go_cut [7] (fun s7 wx => ∃ g, s7 = .pointer (some ⟨g, 0, none⟩) ∧ HeldM c ca cc f fa fc w wx ∧ w.heap.size + 2 < g ∧ Blk wx g 29 (MakeV (1 + f.K % 3) (f.R % 65536) (f.S % slotsI c) 0 0 (.slice none 0 0)))
  case first =>
    have hg := hH.2.2.2.lt
    have HS := Lib.hid (fun W => rslots_any c ca cc W hc)
    have z1 : IntKind.i64.wrap (1 + f.K % 3) = 1 + f.K % 3 := wrap_in _ (by omega) (by omega)
    generalize slotsI c = sl at *
    go_region_held3 (fun W => W.cell? ⟨w.heap.size + 1, 0, none⟩ = some (.int .i64 f.K) ∧ W.cell? ⟨w.heap.size + 1, 1, none⟩ = some (.int .i64 f.R) ∧ W.cell? ⟨w.heap.size + 1, 2, none⟩ = some (.int .i64 f.S) ∧ W.cell? ⟨w.heap.size, 0, none⟩ = some (.int .i64 c.N) ∧ W.cell? ⟨w.heap.size, 1, none⟩ = some (.int .i64 c.Pi) ∧ W.cell? ⟨w.heap.size, 2, none⟩ = some (.int .i64 c.E) ∧ W.cell? ⟨w.heap.size, 3, none⟩ = some (.int .i64 c.G) ∧ W.cell? ⟨w.heap.size, 4, none⟩ = some (.int .i64 c.F) ∧ W.cell? ⟨w.heap.size, 5, none⟩ = some (.slice ca c.P.length cc))
      (first | assumption | exact sm_of (hH.next (Below.refl _ _).drew) | exact sm_of hM | exact sm_of (hM.next (alloc_below _ _)) | exact sm_of ((hH.next (alloc_below wn _)).next (Below.refl _ _).drew) | exact sm_of ((((((hM.set hg 0 _).set hg 1 _).set hg 2 _).set hg 3 _).set hg 4 _).set hg 5 _))
      (first
      | (go_at_call 25; refine (within5_any _ _ _ ?_ ?_).mono ?_; omega; omega; rintro e wl ⟨rfl, rfl⟩)
      | (go_at_call 17; refine (HS.out _).mono ?_; rintro e wm ⟨rfl, hbm⟩; (try have hx := (Blk.drew1 (Blk.new wn 29 zeroBox)).later hbm); (try have hxq := hx.at); (try have hxf := hx.frozen); (try unfold zeroBox at hxq); (first | (have hM := (hH.next (Below.refl _ _).drew).next hbm) | (have hM := ((hH.next (alloc_below wn _)).next (Below.refl _ _).drew).next hbm))))
    all_goals go_wp2_with fail
    all_goals go_meet
    all_goals first
      | exact ⟨_, rfl, hM.next (alloc_below _ _), hM.2.2.2.lt, Blk.new wm _ _⟩
      | exact ⟨_, rfl, (((((hM.set hg 0 _).set hg 1 _).set hg 2 _).set hg 3 _).set hg 4 _).set hg 5 _, hg, makeV_set _ _ _ hx⟩
  case rest =>
    obtain ⟨g, rfl, hM, hgt, hg⟩ := hcut
    clear hH
    have s0 : 0 ≤ f.S % slotsI c := Int.emod_nonneg _ (by omega)
    have s1 : f.S % slotsI c < slotsI c := Int.emod_lt_of_pos _ (by omega)
    have HKd := Lib.hid (show makeK c f = if c.N ≤ f.S % slotsI c then 3 else 1 + f.K % 3 from rfl)
    have HFd := Lib.hid (show makeF c f ns = if makeK c f = 3 then ⟨3, f.R % 65536, f.S % slotsI c, itemOf f.P.V true, makeE ns (if f.S % slotsI c < c.N then (slotsI c).toNat else 0)⟩ else ⟨makeK c f, f.R % 65536, f.S % slotsI c, ⟨0, 0⟩, []⟩ from rfl)
    generalize f.S % slotsI c = s at *
    generalize f.R % 65536 = R at *
    have c0 := hM.2.1.at
    unfold confBox at c0
    have g0 := hg.at
    unfold MakeV at g0
    have gf := hg.frozen
    go_upto_if 27 with fail
    go_cut [] (fun wx => HeldM c ca cc f fa fc w wx ∧ Blk wx g 29 (MakeV (makeK c f) R s 0 0 (.slice none 0 0)))
    case first =>
      by_cases hn : c.N ≤ s
      · have d1 : decide (c.N ≤ s) = true := by simpa using hn
        rw [if_pos hn] at HKd
        go_wp2_with fail
        go_meet
        exact ⟨hM.set hgt 0 _, by rw [HKd.out]; exact hg.set 0 _⟩
      · have d1 : decide (c.N ≤ s) = false := by simpa using hn
        rw [if_neg hn] at HKd
        go_wp2_with fail
        go_meet
        exact ⟨hM, by rw [HKd.out]; exact hg⟩
    case rest =>
      clear hM hg c0 g0 gf
      obtain ⟨hM, hg⟩ := hcut
      have f0 := hM.2.2.1.at
      unfold frBox at f0
      by_cases h3 : makeK c f = 3
      · rw [if_pos h3] at HFd
        rw [h3] at hg
        clear h3 HKd
        have g0 := hg.at
        unfold MakeV at g0
        have gf := hg.frozen
        have HIt := Lib.hid (fun W => item5_any f.P.V true W iV.1 iV.2)
        generalize itemOf f.P.V true = pt at *
        go_wp2_with fail
        refine (HIt.out _).mono ?_
        rintro e wq ⟨rfl, hb⟩
        replace hM := hM.next hb
        replace hg := hg.later hb
        clear hb g0 gf f0 HIt
        have g0 := hg.at
        unfold MakeV at g0
        have gf := hg.frozen
        go_wp2
        go_loopw [8, 9] (fun i _ w' => MakeAt c ca cc f fa fc ns R s pt.K pt.V (if s < c.N then (slotsI c).toNat else 0) w g i w') (fun i _ _ => 15 - (intOf i).toNat)
        case atStart => exact ⟨0, _, rfl, Nat.zero_le _, (hM.set hgt 3 _).set hgt 4 _, (hg.set 3 (.int .i64 pt.K)).set 4 (.int .i64 pt.V), OwnT.nil _ _⟩
        case round =>
          clear hM hg g0 gf
          obtain ⟨k, v, rfl, hk, hM, hg, hown⟩ := hrel
          have c0 := hM.2.1.at
          unfold confBox at c0
          have HSl := Lib.hid (fun W => rslots_any c ca cc W hc)
          by_cases hs : s < c.N
          · rw [if_pos hs] at hk HFd
            have d2 : decide (s < c.N) = true := by simpa using hs
            by_cases hlt : (k : Int) < slotsI c
            · have d1 : decide ((k : Int) < slotsI c) = true := by simpa using hlt
              go_wp2_with fail
              refine (HSl.out _).mono ?_
              rintro e wp ⟨rfl, hb⟩
              replace hM := hM.next hb
              replace hg := hg.later hb
              replace hown := hown.later hb
              clear hb c0
              have c0 := hM.2.1.at
              unfold confBox at c0
              have g0 := hg.at
              unfold MakeV at g0
              have gf := hg.frozen
              have HS := Lib.hid (makeE_succ ns k)
              have hll : (makeE ns k).length ≤ 15 := by rw [makeE_len]; omega
              have hglt := hg.lt
              have hol := hown.lt
              by_cases hn : 0 < ns.length
              · have d3 : decide (0 < ns.length) = true := by simpa using hn
                obtain ⟨j, hj⟩ : ∃ j, k % ns.length = j := ⟨_, rfl⟩
                have hix : j < ns.length := by rw [← hj]; exact Nat.mod_lt _ hn
                obtain ⟨b, off, rfl, hbl, hcell, hz1, hz2⟩ := (hns.later hM.1).get j hix
                have he : echoN ns k = ns[j].tdiv (1 + (k : Int)) + k := by unfold echoN; rw [if_pos hn, hj, List.getD_eq_getElem?_getD, List.getElem?_eq_getElem hix]; rfl
                have hti := tdiv_in ns[j] k (by omega) ⟨hz1, hz2⟩
                rw [he] at HS
                have HI2 := Lib.hid (fun W => item5_any (ns[j].tdiv (1 + (k : Int)) + k) false W hti.1.1 hti.1.2)
                have r1 : (k : Int) % (ns.length : Int) = (j : Int) := by rw [← hj]; omega
                have r2 : (k : Int).tmod (ns.length : Int) = (j : Int) := by rw [Int.tmod_eq_emod_of_nonneg (by omega)]; exact r1
                have w1 : wrap64 (ns[j].tdiv (1 + (k : Int))) = ns[j].tdiv (1 + (k : Int)) := IntWalk.wrap64_in _ hti.2
                have w2 : wrap64 (ns[j].tdiv (1 + (k : Int)) + k) = ns[j].tdiv (1 + (k : Int)) + k := IntWalk.wrap64_in _ hti.1
                have w3 : IntKind.i64.wrap (ns[j].tdiv (1 + (k : Int))) = ns[j].tdiv (1 + (k : Int)) := wrap_in _ hti.2.1 hti.2.2
                have w4 : IntKind.i64.wrap (ns[j].tdiv (1 + (k : Int)) + k) = ns[j].tdiv (1 + (k : Int)) + k := wrap_in _ hti.1.1 hti.1.2
                clear hj
                generalize ns[j] = x at *
                generalize itemOf (x.tdiv (1 + (k : Int)) + k) false = t at *
                generalize makeE ns k = TS at *
                obtain ⟨av, cv, rfl⟩ := hown.form
                clear he
                go_wp2_with fail
                go_region_law (first
                  | (refine step_appT _ (by rfl) (.tmp 68) (.tmp 71) (by rfl) (g + 1) (.slice av TS.length cv) TS (by simp [Act.eval]) (hown.later ((from_drew hb).alloc (from_drew hb).size _)) wl.heap.size 1 t (by simp [Act.eval]) (heap_alloc_new _ _) (by omega) (by have h0 : wp.heap.size ≤ wl.heap.size := (from_drew hb).size; simp; omega) ?_; intro g' cap' w2 h1' h2' h3' h4'; have k3w := (Blk.alloc k3l (.cells #[.int .i64 t.K, .int .i64 t.V] 26)).grown h2' (fun e => by have := (hol _ e.symm).1; omega); have q3w := k3w.at 5; have f3w := k3w.frozen 5; unfold MakeV at q3w)
                  | (go_simp; go_at_call 26; refine (HI2.out _).mono ?_; rintro e wl ⟨rfl, hb⟩; have k3l := hg.later (from_drew hb); have q3l := k3l.at 5; have q3m := fun o : Obj => (k3l.alloc o).at 5; unfold MakeV at q3l q3m))
                all_goals
                  have h0 : wp.heap.size ≤ wl.heap.size := (from_drew hb).size
                  have hMl := (hM.next (from_drew hb)).next (alloc_below wl (.cells #[.int .i64 t.K, .int .i64 t.V] 26))
                  go_wp2
                  go_roundw
                  case rel =>
                    refine ⟨k + 1, _, by go_num, by rw [if_pos hs]; omega, (hMl.grown h2' (fun g' e => by have := (hol g' e).1; omega)).set hgt 5 _, k3w.set 5 _, ?_⟩
                    rw [HS.out]
                    exact h1'.far ⟨g, 5, none⟩ _ (by simp)
                  case measure => simp [intOf]; omega
              · have d3 : decide (0 < ns.length) = false := by simpa using hn
                have he : echoN ns k = (k : Int) := by unfold echoN; rw [if_neg hn]
                rw [he] at HS
                have HI2 := Lib.hid (fun W => item5_any (k : Int) false W (by omega) (by omega))
                generalize itemOf (k : Int) false = t at *
                generalize makeE ns k = TS at *
                obtain ⟨av, cv, rfl⟩ := hown.form
                clear he
                go_wp2_with fail
                go_region_law (first
                  | (refine step_appT _ (by rfl) (.tmp 68) (.tmp 71) (by rfl) (g + 1) (.slice av TS.length cv) TS (by simp [Act.eval]) (hown.later ((from_drew hb).alloc (from_drew hb).size _)) wl.heap.size 1 t (by simp [Act.eval]) (heap_alloc_new _ _) (by omega) (by have h0 : wp.heap.size ≤ wl.heap.size := (from_drew hb).size; simp; omega) ?_; intro g' cap' w2 h1' h2' h3' h4'; have k3w := (Blk.alloc k3l (.cells #[.int .i64 t.K, .int .i64 t.V] 26)).grown h2' (fun e => by have := (hol _ e.symm).1; omega); have q3w := k3w.at 5; have f3w := k3w.frozen 5; unfold MakeV at q3w)
                  | (go_simp; go_at_call 26; refine (HI2.out _).mono ?_; rintro e wl ⟨rfl, hb⟩; have k3l := hg.later (from_drew hb); have q3l := k3l.at 5; have q3m := fun o : Obj => (k3l.alloc o).at 5; unfold MakeV at q3l q3m))
                all_goals
                  have h0 : wp.heap.size ≤ wl.heap.size := (from_drew hb).size
                  have hMl := (hM.next (from_drew hb)).next (alloc_below wl (.cells #[.int .i64 t.K, .int .i64 t.V] 26))
                  go_wp2
                  go_roundw
                  case rel =>
                    refine ⟨k + 1, _, by go_num, by rw [if_pos hs]; omega, (hMl.grown h2' (fun g' e => by have := (hol g' e).1; omega)).set hgt 5 _, k3w.set 5 _, ?_⟩
                    rw [HS.out]
                    exact h1'.far ⟨g, 5, none⟩ _ (by simp)
                  case measure => simp [intOf]; omega
            · have d1 : decide ((k : Int) < slotsI c) = false := by simpa using hlt
              have hkk : (slotsI c).toNat = k := by omega
              rw [hkk] at HFd
              clear hkk
              go_wp2_with fail
              refine (HSl.out _).mono ?_
              rintro e wp ⟨rfl, hb⟩
              replace hM := hM.next hb
              replace hg := hg.later hb
              replace hown := (hown.later hb).weak (show w.heap.size + 3 ≤ g + 1 by omega)
              clear hb c0
              have c0 := hM.2.1.at
              unfold confBox at c0
              have hin := makeE_in ns k
              have hll : (makeE ns k).length ≤ 1000000 := by rw [makeE_len]; omega
              generalize makeE ns k = TS at *
              obtain ⟨av, cv, rfl⟩ := hown.form
              have g0 := hg.at
              unfold MakeV at g0
              have z0 := hM.2.2.2.at
              unfold zeroBox at z0
              have zf := hM.2.2.2.frozen
              go_wp2
              exact make5_end ⟨3, R, s, pt, TS⟩ w _ av cv hM.1 hM.2.2.2 hown hll hin HFd.out
          · rw [if_neg hs] at hk HFd
            have d2 : decide (s < c.N) = false := by simpa using hs
            obtain rfl : k = 0 := by omega
            have d1 : decide (0 < slotsI c) = true := by simp; omega
            go_wp2_with fail
            refine (HSl.out _).mono ?_
            rintro e wp ⟨rfl, hb⟩
            replace hM := hM.next hb
            replace hg := hg.later hb
            replace hown := (hown.later hb).weak (show w.heap.size + 3 ≤ g + 1 by omega)
            clear hb c0
            have c0 := hM.2.1.at
            unfold confBox at c0
            have hin := makeE_in ns 0
            have hll : (makeE ns 0).length ≤ 1000000 := by rw [makeE_len]; omega
            generalize makeE ns 0 = TS at *
            obtain ⟨av, cv, rfl⟩ := hown.form
            have g0 := hg.at
            unfold MakeV at g0
            have z0 := hM.2.2.2.at
            unfold zeroBox at z0
            have zf := hM.2.2.2.frozen
            go_wp2
            exact make5_end ⟨3, R, s, pt, TS⟩ w _ av cv hM.1 hM.2.2.2 hown hll hin HFd.out
      · rw [if_neg h3] at HFd
        have d1 : (makeK c f != 3) = true := by simpa using h3
        clear h3 HKd
        generalize makeK c f = K at *
        have g0 := hg.at
        unfold MakeV at g0
        have z0 := hM.2.2.2.at
        unfold zeroBox at z0
        have zf := hM.2.2.2.frozen
        go_wp2
        exact make5_end ⟨K, R, s, ⟨0, 0⟩, []⟩ w _ none 0 hM.1 hM.2.2.2 (OwnT.nil _ _) (by simp) (by simp) HFd.out

theorem make5_any (c : Cf) (ca : Option Addr) (cc : Nat) (f : Fr) (fa : Option Addr) (fc : Nat) (na : Option Addr) (ns : List Int) (nc : Nat) (w : World) (hc : c.Ok) (hns : Row w na ns) (iK : inI f.K) (iR : inI f.R) (iS : inI f.S) (iV : inI f.P.V) :
    Calls Tryd.prog 12 #[.agg #[.int .i64 c.N, .int .i64 c.Pi, .int .i64 c.E, .int .i64 c.G, .int .i64 c.F, .slice ca c.P.length cc], .agg #[.int .i64 f.K, .int .i64 f.R, .int .i64 f.S, .int .i64 f.P.K, .int .i64 f.P.V, .slice fa f.E.length fc], .slice na ns.length nc] w (FrRet (makeF c f ns) w) :=
  (make5_any2 c ca cc f fa fc na ns nc w hc hns iK iR iS iV).mono fun e w' ⟨a, cap, h1, h2, h3, _, h4⟩ => ⟨a, cap, h1, h2, h3, h4⟩

end Go.Proofs.YtkflijbhlibadabDoor
/-
  Contracts of package conf, first part: numbers of a network, who is a node, whose pair slot it is, a slot's owners; nothing that was in memory is changed.
-/
namespace Go.Proofs.YtkflijbhlibadabDoor
open Go.RowKit Plait
set_option maxRecDepth 100000
set_option linter.unusedVariables false

theorem cisNode_any (c : Cf) (a : Option Addr) (cap : Nat) (s : Int) (w : World) :
    Calls Tryd.prog 57 #[.agg #[.int .i64 c.N, .int .i64 c.Pi, .int .i64 c.E, .int .i64 c.G, .int .i64 c.F, .slice a c.P.length cap], .int .i64 s] w fun e w' => e = .returned (.bool (nodeB c s)) ∧ Below w.heap.size w w' := by
  have HF := Lib.hid (show (decide (0 ≤ s) && decide (s < c.N)) = nodeB c s from rfl)
  by_cases h : 0 ≤ s
  · go_enter Tryd.func57, Tryd.ntmps57
    go_wp2
    go_ret
    exact ⟨ret_bool (by rw [← HF.out]; simp [h]), (Below.refl _ _).alloc (Nat.le_refl _) _⟩
  · have hd : decide (0 ≤ s) = false := by simpa using h
    go_enter Tryd.func57, Tryd.ntmps57
    go_wp2
    go_ret
    exact ⟨ret_bool (by rw [← HF.out]; simp [hd]), (Below.refl _ _).alloc (Nat.le_refl _) _⟩

theorem cslots_any (c : Cf) (a : Option Addr) (cap : Nat) (w : World) (hc : c.Ok) :
    Calls Tryd.prog 65 #[.agg #[.int .i64 c.N, .int .i64 c.Pi, .int .i64 c.E, .int .i64 c.G, .int .i64 c.F, .slice a c.P.length cap]] w fun e w' => e = .returned (.int .i64 (slotsI c)) ∧ Below w.heap.size w w' := by
  have h1 := hc.n6; have h2 := hc.n12; have h3 := hc.len
  go_enter Tryd.func65, Tryd.ntmps65
  go_wp2
  go_ret
  exact ⟨rfl, (Below.refl _ _).alloc (Nat.le_refl _) _⟩

theorem cwire_any (c : Cf) (a : Option Addr) (cap : Nat) (r : Int) (w : World) (hc : c.Ok) (hr : 0 ≤ r) (hr2 : r ≤ 1099511627776) :
    Calls Tryd.prog 34 #[.agg #[.int .i64 c.N, .int .i64 c.Pi, .int .i64 c.E, .int .i64 c.G, .int .i64 c.F, .slice a c.P.length cap], .int .i64 r] w fun e w' => e = .returned (.int .i64 (wireI c r)) ∧ Below w.heap.size w w' := by
  have h1 := hc.f0; have h2 := hc.f1
  have hd : IntKind.u16.wrap (c.F + r) = (c.F + r) % 65536 := by simp [IntKind.wrap, IntKind.signed, IntKind.bits]
  have HF := Lib.hid (show (c.F + r) % 65536 = wireI c r from rfl)
  go_enter Tryd.func34, Tryd.ntmps34
  go_wp2
  go_ret
  exact ⟨ret_int (by rw [← HF.out]), (Below.refl _ _).alloc (Nat.le_refl _) _⟩

/-- The loop of pairOf: none of the pairs ahead of k has the slot. -/
def PairAt (c : Cf) (s : Int) (i : Value) : Prop := ∃ k : Nat, k ≤ c.P.length ∧ i = .int .i64 k ∧ ∀ j : Nat, j < k → s ≠ c.N + j

end Go.Proofs.YtkflijbhlibadabDoor

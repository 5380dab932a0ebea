/-
  Contracts of plaitingref5, fifth part: numbers and items of bits, frames of texts.
-/
import Derived.Test.YtbghpkdkfbpmeaaGreatK5
namespace Go.Proofs.YtbghpkdkfbpmeaaGreat
open Go.RowKit Plait
set_option maxRecDepth 100000
set_option linter.unusedVariables false

theorem numR_form (l : List UInt8) : ∃ b, numR l = .tuple #[.int .i64 (num0 l), .bool b] := by
  unfold numR num0
  split
  · exact ⟨true, rfl⟩
  · exact ⟨false, rfl⟩

theorem rnumber_any (l : List UInt8) (w : World) (hs : l.length ≤ 1099511627776) :
    Calls Tryz.prog 46 #[.string ⟨l.toArray⟩] w fun e w' => e = .returned (.int .i64 (num0 l)) ∧ w = w' := by
  obtain ⟨b, hb⟩ := numR_form l
  have HR := Lib.hid (fun W => rnum_any l W hs)
  rw [hb] at HR
  clear hb
  generalize num0 l = n at *
  go_enter Tryz.func46, Tryz.ntmps46
  go_wp2_with fail
  refine (HR.out _).mono ?_
  rintro e wl ⟨rfl, rfl⟩
  go_wp2
  go_ret
  exact ⟨rfl, rfl⟩

set_option maxHeartbeats 1600000 in
theorem rread_any (l : List UInt8) (w : World) (h10 : 10 ≤ l.length) (hs : l.length ≤ 1048576) :
    Calls Tryz.prog 47 #[.string ⟨l.toArray⟩] w fun e w' => e = .returned (.agg #[.int .i64 (itOf l).K, .int .i64 (itOf l).V]) ∧ Below w.heap.size w w' := by
  have HA := Lib.hid (fun W => rnumber_any (l.take 2) W (by rw [List.length_take]; omega))
  have HB := Lib.hid (fun W => rnumber_any ((l.drop 2).take 8) W (by rw [List.length_take]; omega))
  have h1 : (2 : Int) ≤ (l.length : Int) := by omega
  have h2 : (10 : Int) ≤ (l.length : Int) := by omega
  have HF := Lib.hid (show itOf l = ⟨num0 (l.take 2), num0 ((l.drop 2).take 8)⟩ from rfl)
  have hB0 : Below w.heap.size w (w.alloc (.cells #[.int .i64 0, .int .i64 0] 29)) := alloc_below _ _
  have hK0 : Blk (w.alloc (.cells #[.int .i64 0, .int .i64 0] 29)) w.heap.size 29 #[.int .i64 0, .int .i64 0] := Blk.new _ _ _
  have hc0 := hK0.at 0
  have hc1 := hK0.at 1
  have hf0 := hK0.frozen 0
  have hf1 := hK0.frozen 1
  go_enter Tryz.func47, Tryz.ntmps47
  go_wp2_with fail
  go_region_held3 (fun W => Below w.heap.size w W) (first | exact hB0.drew | assumption | exact (alloc_below _ _).drew)
    (first
    | (go_at_call 46; refine (rnumber_any _ _ ?_).mono ?_; (simp; omega); rintro e wl ⟨rfl, rfl⟩))
  all_goals go_wp2_with fail
  all_goals
    refine bodyPost_ret (v := .agg #[.int .i64 (num0 (l.take 2)), .int .i64 (num0 ((l.drop 2).take 8))]) (by simp [results, Tryz.results47, go_sem]) rfl ⟨by rw [HF.out], by assumption⟩

end Go.Proofs.YtbghpkdkfbpmeaaGreat
/-
  Rows of items that a call made itself.
-/
namespace Go.Proofs.YtbghpkdkfbpmeaaGreat
open Go.RowKit Plait
set_option maxRecDepth 100000
set_option linter.unusedVariables false

/-- The cells of items. -/
def itCells (ts : List It) : List Value := ts.flatMap fun t => [.int .i64 t.K, .int .i64 t.V]

theorem itCells_len : ∀ ts : List It, (itCells ts).length = ts.length * 2
  | [] => rfl
  | t :: r => by unfold itCells; rw [List.flatMap_cons, List.length_append, List.length_cons]; have := itCells_len r; unfold itCells at this; rw [this]; simp; omega

theorem itCells_get : ∀ (ts : List It) (i : Nat) (h : i < ts.length), (itCells ts)[i * 2]? = some (.int .i64 ts[i].K) ∧ (itCells ts)[i * 2 + 1]? = some (.int .i64 ts[i].V)
  | [], i, h => absurd h (by simp)
  | t :: r, 0, h => ⟨rfl, rfl⟩
  | t :: r, i + 1, h => by
    have ih := itCells_get r i (by simpa using h)
    have e : itCells (t :: r) = [.int .i64 t.K, .int .i64 t.V] ++ itCells r := by unfold itCells; rw [List.flatMap_cons]
    rw [e]
    constructor
    · rw [List.getElem?_append_right (by simp; omega), show (i + 1) * 2 - [Value.int .i64 t.K, Value.int .i64 t.V].length = i * 2 by simp; omega]
      exact ih.1
    · rw [List.getElem?_append_right (by simp; omega), show (i + 1) * 2 + 1 - [Value.int .i64 t.K, Value.int .i64 t.V].length = i * 2 + 1 by simp; omega]
      exact ih.2

theorem itCells_append (a b : List It) : itCells (a ++ b) = itCells a ++ itCells b := by simp [itCells]

/-- A row of items that the call made itself. -/
def OwnT (base : Nat) (w : World) (v : Value) (ts : List It) : Prop := w.ownsRow base 29 2 v ts.length (itCells ts)

theorem OwnT.nil (base : Nat) (w : World) : OwnT base w (.slice none 0 0) [] := World.ownsRow_nil w base _ 2

theorem OwnT.form {base : Nat} {w : World} {v : Value} {ts : List It} (h : OwnT base w v ts) : ∃ a cap, v = .slice a ts.length cap := by
  rcases h.2 with ⟨hv, h0⟩ | ⟨g, cap, cur, hv, _⟩
  · exact ⟨none, 0, by rw [hv, h0]⟩
  · exact ⟨_, _, hv⟩

theorem OwnT.lt {base : Nat} {w : World} {v : Value} {ts : List It} (h : OwnT base w v ts) : ∀ k, v.ownBlock = some k → base ≤ k ∧ k < w.heap.size := World.ownsRow.lt h
theorem OwnT.later {base : Nat} {w w' : World} {v : Value} {ts : List It} (h : OwnT base w v ts) (hb : Below w.heap.size w w') : OwnT base w' v ts := by
  refine World.ownsRow.kept (row := none) h ⟨hb.os, hb.tape, hb.output, hb.size, fun k hk _ => hb.block k hk⟩ ?_
  cases hv : v.ownBlock
  · exact .inl rfl
  · exact .inr (by simp)
theorem OwnT.far {base : Nat} {w : World} {v : Value} {ts : List It} (h : OwnT base w v ts) (p : Addr) (u : Value) (hp : p.block < base) : OwnT base (w.setCell p u) v ts := by
  refine World.ownsRow.kept (row := some p.block) h ⟨rfl, rfl, rfl, by simp [World.setCell], fun k hk hne => Below.heap_setCell w p u k (fun e => hne (by rw [e]))⟩ ?_
  cases hv : v.ownBlock with
  | none => exact .inl rfl
  | some g =>
    refine .inr (fun e => ?_)
    have := (h.lt g hv).1
    injection e with e
    omega

theorem OwnT.row {base : Nat} {w : World} {a : Option Addr} {n cap : Nat} {ts : List It} (h : OwnT base w (.slice a n cap) ts) (hl : ts.length ≤ 9223372036854775807) (hz : ∀ t ∈ ts, inI t.K ∧ inI t.V) : RowT w a ts := by
  refine ⟨hl, hz, ?_⟩
  rcases Nat.eq_zero_or_pos ts.length with h0 | h0
  · exact .inl (List.eq_nil_of_length_eq_zero h0)
  · rcases h.2 with ⟨_, h1⟩ | ⟨g, cap', cur, hv, hg, hb, hcap, hmax, hsz, ht⟩
    · omega
    · have hA : a = some ⟨g, 0, none⟩ := by injection hv
      subst hA
      refine .inr ⟨g, 0, rfl, (Array.getElem?_eq_some_iff.1 hb).1, fun i hi => ?_⟩
      have hc := fun j u (hj : (itCells ts)[j]? = some u) => World.ownsRow.cells h (g := g) rfl j u hj
      have hi2 := itCells_get ts i hi
      have c1 := hc _ _ hi2.1
      have c2 := hc _ _ hi2.2
      rw [addr_at] at c1 c2
      exact ⟨c1, c2⟩

theorem infoItem : (Tryz.prog.info? 29).map (fun i => (i.zero, i.size, i.bytes)) = some (some (.agg #[.int .i64 0, .int .i64 0]), 2, 16) := by kernel_rfl

/-- One item behind a row that the call made itself, at a step of a region that draws its order. -/
theorem step_appT {ops : Array Oper} {o : Oper} {a : Act} {K : Act → World → Prop} {Q : Exit → Act → World → Prop} {E : Prop} (w : World) (hgd : o.guard = none) (s x : Operand)
    (ho : o.op = .call { callee := .builtin .append, args := #[s, x], argTypes := #[30, 30] })
    (base : Nat) (v : Value) (ts : List It) (hs : a.eval s = v) (hown : OwnT base w v ts) (H c : Nat) (t : It) (hx : a.eval x = .slice (some ⟨H, 0, none⟩) 1 c)
    (hH : w.heap[H]? = some (.cells #[.int .i64 t.K, .int .i64 t.V] 29 (0, 0))) (hlen : ts.length ≤ 1000000) (hbase : base ≤ w.heap.size)
    (h : ∀ g cap w', OwnT base w' (.slice (some ⟨g, 0, none⟩) (ts.length + 1) cap) (ts ++ [t]) → w.grownBy w' v.ownBlock → (v.ownBlock = some g ∨ g = w.heap.size) → g < w'.heap.size →
      K (a.put o.dst (.slice (some ⟨g, 0, none⟩) (ts.length + 1) cap)) w') : if Region.wanted o (yielded ops a.tmps) = true then Oper.wp Tryz.prog o a w K Q else E := by
  obtain ⟨i, hi, hz0, hz1, hz2⟩ := info_parts infoItem
  refine step_append_lies w hgd s x _ ho base 29 i (.agg #[.int .i64 0, .int .i64 0]) 2 16 Tryz.underlying30 hi hz0 hz1 hz2 rfl (by omega) v ts.length _ hs hown ⟨H, 0, none⟩ 1 c [.int .i64 t.K, .int .i64 t.V] hx rfl
    (World.news_of_block hH) (by simp [Value.oneCell']) (by omega) (by unfold maxLen; omega) (by omega) hbase _ rfl ?_
  intro g cap w' h1 h2 h3 h4
  refine h g cap w' ?_ h2 h3 h4
  unfold OwnT
  rw [List.length_append, itCells_append]
  exact h1

/-- The same, at a plain region's list. -/
theorem wpList_appT {ops : Array Oper} {rest : List Oper} {o : Oper} {a : Act} {Q : Exit → Act → World → Prop} (w : World) (hgd : o.guard = none) (s x : Operand)
    (ho : o.op = .call { callee := .builtin .append, args := #[s, x], argTypes := #[30, 30] })
    (base : Nat) (v : Value) (ts : List It) (hs : a.eval s = v) (hown : OwnT base w v ts) (H c : Nat) (t : It) (hx : a.eval x = .slice (some ⟨H, 0, none⟩) 1 c)
    (hH : w.heap[H]? = some (.cells #[.int .i64 t.K, .int .i64 t.V] 29 (0, 0))) (hlen : ts.length ≤ 1000000) (hbase : base ≤ w.heap.size)
    (h : ∀ g cap w', OwnT base w' (.slice (some ⟨g, 0, none⟩) (ts.length + 1) cap) (ts ++ [t]) → w.grownBy w' v.ownBlock → (v.ownBlock = some g ∨ g = w.heap.size) → g < w'.heap.size →
      wpList Tryz.prog ops Q rest (a.put o.dst (.slice (some ⟨g, 0, none⟩) (ts.length + 1) cap)) w') : wpList Tryz.prog ops Q (o :: rest) a w := by
  obtain ⟨i, hi, hz0, hz1, hz2⟩ := info_parts infoItem
  refine wpList_append_lies w hgd s x _ ho base 29 i (.agg #[.int .i64 0, .int .i64 0]) 2 16 Tryz.underlying30 hi hz0 hz1 hz2 rfl (by omega) v ts.length _ hs hown ⟨H, 0, none⟩ 1 c [.int .i64 t.K, .int .i64 t.V] hx rfl
    (World.news_of_block hH) (by simp [Value.oneCell']) (by omega) (by unfold maxLen; omega) (by omega) hbase _ rfl ?_
  intro g cap w' h1 h2 h3 h4
  refine h g cap w' ?_ h2 h3 h4
  unfold OwnT
  rw [List.length_append, itCells_append]
  exact h1

end Go.Proofs.YtbghpkdkfbpmeaaGreat
/-
  Contracts of plaitingref5, sixth part: frames of texts.
-/
namespace Go.Proofs.YtbghpkdkfbpmeaaGreat
open Go.RowKit Plait
set_option maxRecDepth 100000
set_option linter.unusedVariables false

/-- What a call answers that reads a frame. -/
def ReadRet (p : Fr × Int) (w : World) (e : Ending) (w' : World) : Prop :=
  ∃ (a : Option Addr) (cap : Nat), e = .returned (.tuple #[.agg #[.int .i64 p.1.K, .int .i64 p.1.R, .int .i64 p.1.S, .int .i64 p.1.P.K, .int .i64 p.1.P.V, .slice a p.1.E.length cap], .int .i64 p.2]) ∧ RowT w' a p.1.E ∧ (∀ x, a = some x → w.heap.size ≤ x.block) ∧ Below w.heap.size w w'

/-- The same, and that its row is the call's own. -/
def ReadRet2 (p : Fr × Int) (w : World) (e : Ending) (w' : World) : Prop :=
  ∃ (a : Option Addr) (cap : Nat), e = .returned (.tuple #[.agg #[.int .i64 p.1.K, .int .i64 p.1.R, .int .i64 p.1.S, .int .i64 p.1.P.K, .int .i64 p.1.P.V, .slice a p.1.E.length cap], .int .i64 p.2]) ∧ RowT w' a p.1.E ∧ (∀ x, a = some x → w.heap.size ≤ x.block) ∧ OwnT w.heap.size w' (.slice a p.1.E.length cap) p.1.E ∧ Below w.heap.size w w'
theorem OwnT.weaken {base base' : Nat} {w : World} {v : Value} {ts : List It} (h : OwnT base w v ts) (hb : base' ≤ base) : OwnT base' w v ts := by
  refine ⟨h.1, ?_⟩
  rcases h.2 with h | ⟨g', cap', cur, h1, h2, h3⟩
  · exact .inl h
  · exact .inr ⟨g', cap', cur, h1, Nat.le_trans hb h2, h3⟩

/-- An empty frame's box. -/
def zeroBox : Array Value := #[.int .i64 0, .int .i64 0, .int .i64 0, .int .i64 0, .int .i64 0, .slice none 0 0]

theorem open_len (l : List UInt8) : (openP l).1.length ≤ l.length := by
  unfold openP
  split
  · simp
  · split
    · simp
    · split
      · show (l.take _).length ≤ _
        rw [List.length_take]; omega
      · simp

/-- Read's last step: the frame is laid into the result's place. -/
theorem read_end (f : Fr) (er : Int) (w wr : World) (av : Option Addr) (cv : Nat) (hB : Below w.heap.size w wr) (k2 : Blk wr (w.heap.size + 1) 32 zeroBox)
    (hown : OwnT (w.heap.size + 2) wr (.slice av f.E.length cv) f.E) (hl : f.E.length ≤ 1000000) (hz : ∀ t ∈ f.E, inI t.K ∧ inI t.V) {p : Fr × Int} (hp : p = (f, er)) {a : Act}
    (h4 : a.tmps[4]? = some (.pointer (some ⟨w.heap.size + 1, 0, none⟩)) := by rfl) (h5 : a.tmps[5]? = some (.int .i64 er) := by rfl) (hd : a.defers = [] := by rfl) :
    bodyPost Tryz.prog Tryz.f25 (ReadRet2 p w) Exit.ret a
      ((((((wr.setCell ⟨w.heap.size + 1, 0, none⟩ (.int .i64 f.K)).setCell ⟨w.heap.size + 1, 1, none⟩ (.int .i64 f.R)).setCell ⟨w.heap.size + 1, 2, none⟩ (.int .i64 f.S)).setCell
        ⟨w.heap.size + 1, 3, none⟩ (.int .i64 f.P.K)).setCell ⟨w.heap.size + 1, 4, none⟩ (.int .i64 f.P.V)).setCell ⟨w.heap.size + 1, 5, none⟩ (.slice av f.E.length cv)) := by
  subst hp
  unfold zeroBox at k2
  have kk := ((((((k2.set 0 (.int .i64 f.K)).set 1 (.int .i64 f.R)).set 2 (.int .i64 f.S)).set 3 (.int .i64 f.P.K)).set 4 (.int .i64 f.P.V)).set 5 (.slice av f.E.length cv))
  have hb2 := (((((hB.setCell (p := ⟨w.heap.size + 1, 0, none⟩) (by simp) (.int .i64 f.K)).setCell (p := ⟨w.heap.size + 1, 1, none⟩) (by simp) (.int .i64 f.R)).setCell (p := ⟨w.heap.size + 1, 2, none⟩) (by simp) (.int .i64 f.S)).setCell
    (p := ⟨w.heap.size + 1, 3, none⟩) (by simp) (.int .i64 f.P.K)).setCell (p := ⟨w.heap.size + 1, 4, none⟩) (by simp) (.int .i64 f.P.V)).setCell (p := ⟨w.heap.size + 1, 5, none⟩) (by simp) (.slice av f.E.length cv)
  have ho := (((((hown.far ⟨w.heap.size + 1, 0, none⟩ (.int .i64 f.K) (by simp)).far ⟨w.heap.size + 1, 1, none⟩ (.int .i64 f.R) (by simp)).far ⟨w.heap.size + 1, 2, none⟩ (.int .i64 f.S) (by simp)).far
    ⟨w.heap.size + 1, 3, none⟩ (.int .i64 f.P.K) (by simp)).far ⟨w.heap.size + 1, 4, none⟩ (.int .i64 f.P.V) (by simp)).far ⟨w.heap.size + 1, 5, none⟩ (.slice av f.E.length cv) (by simp)
  generalize (((((wr.setCell _ _).setCell _ _).setCell _ _).setCell _ _).setCell _ _).setCell _ _ = W at *
  have q := kk.at
  simp at q
  refine bodyPost_ret (v := .tuple #[.agg #[.int .i64 f.K, .int .i64 f.R, .int .i64 f.S, .int .i64 f.P.K, .int .i64 f.P.V, .slice av f.E.length cv], .int .i64 er]) (by simp [results, Tryz.results25, go_sem, h4, h5, q]) hd ⟨av, cv, rfl, ho.row (by omega) hz, ?_, ho.weaken (by omega), hb2⟩
  intro x hx
  have := (ho.lt x.block (by rw [hx]; rfl)).1
  omega

theorem itsOf_succ (l : List UInt8) (k : Nat) : itsOf l (k + 1) = itsOf l k ++ [itOf ((l.drop (10 * k)).take 10)] := by simp [itsOf, List.range_succ]
theorem itsOf_len (l : List UInt8) (k : Nat) : (itsOf l k).length = k := by simp [itsOf]
theorem itOf_in (l : List UInt8) : inI (itOf l).K ∧ inI (itOf l).V := by
  have h1 := num0_range (l.take 2) 2 (by rw [List.length_take]; omega)
  have h2 := num0_range ((l.drop 2).take 8) 8 (by rw [List.length_take]; omega)
  unfold itOf inI
  simp only
  omega
theorem itsOf_in (l : List UInt8) (k : Nat) : ∀ t ∈ itsOf l k, inI t.K ∧ inI t.V := by
  intro t ht
  unfold itsOf at ht
  rw [List.mem_map] at ht
  obtain ⟨i, _, rfl⟩ := ht
  exact itOf_in _

theorem readF_err (c : Cf) (l b : List UInt8) (e : Int) (h : openP l = (b, e)) (he : e ≠ 0) : readF c l = (zeroF, e) := by unfold readF; rw [h]; simp [he]
theorem readF_ok (c : Cf) (l b : List UInt8) (h : openP l = (b, 0)) : readF c l = readB c b := by unfold readF; rw [h]; simp
theorem readB_cut (c : Cf) (b : List UInt8) (h : b.length < 34) : readB c b = (zeroF, 3) := by unfold readB; rw [if_pos h]
theorem readB_long (c : Cf) (b : List UInt8) (h : ¬ b.length < 34) (h2 : (b.length : Int) - 34 ≠ 10 * echoI c (frOf b).K (frOf b).S) : readB c b = (zeroF, 2) := by unfold readB; rw [if_neg h, if_pos h2]
theorem readB_check (c : Cf) (b : List UInt8) (h : ¬ b.length < 34) (h2 : (b.length : Int) - 34 = 10 * echoI c (frOf b).K (frOf b).S) (e : Int) (he : checkF c ((frOf b).with (itsOf (b.drop 34) ((b.length - 34) / 10))) = e) (h3 : e ≠ 0) : readB c b = (zeroF, e) := by
  unfold readB
  rw [if_neg h, if_neg (by omega), he, if_pos h3]
theorem readB_ok (c : Cf) (b : List UInt8) (h : ¬ b.length < 34) (h2 : (b.length : Int) - 34 = 10 * echoI c (frOf b).K (frOf b).S) (he : checkF c ((frOf b).with (itsOf (b.drop 34) ((b.length - 34) / 10))) = 0) : readB c b = ((frOf b).with (itsOf (b.drop 34) ((b.length - 34) / 10)), 0) := by
  unfold readB
  rw [if_neg h, if_neg (by omega), he, if_neg (by simp)]

/-- Where the frame that is read stands, boxed at g. -/
def ReadG (c : Cf) (ca : Option Addr) (cc : Nat) (K R S PK PV : Int) (w : World) (g : Nat) (v : Value) (wx : World) : Prop :=
  Below w.heap.size w wx ∧ Blk wx w.heap.size 24 (confBox c ca cc) ∧ Blk wx (w.heap.size + 1) 32 zeroBox ∧ w.heap.size + 1 < g ∧
    Blk wx g 32 #[.int .i64 K, .int .i64 R, .int .i64 S, .int .i64 PK, .int .i64 PV, v]

/-- What holds on while the frame's parts are read. -/
def HeldR (c : Cf) (ca : Option Addr) (cc : Nat) (w W : World) : Prop := Below w.heap.size w W ∧ Blk W w.heap.size 24 (confBox c ca cc) ∧ Blk W (w.heap.size + 1) 32 zeroBox
theorem HeldR.next {c : Cf} {ca : Option Addr} {cc : Nat} {w W W' : World} (h : HeldR c ca cc w W) (hb : Below W.heap.size W W') : HeldR c ca cc w W' := ⟨h.1.trans (hb.mono h.1.size), h.2.1.later hb, h.2.2.later hb⟩

theorem HeldR.set {c : Cf} {ca : Option Addr} {cc : Nat} {w W : World} (h : HeldR c ca cc w W) {g : Nat} (hg : w.heap.size + 1 < g) (k : Nat) (u : Value) : HeldR c ca cc w (W.setCell ⟨g, k, none⟩ u) :=
  ⟨h.1.setCell (by show w.heap.size ≤ g; omega) u, h.2.1.far (by show w.heap.size ≠ g; omega) u, h.2.2.far (by show w.heap.size + 1 ≠ g; omega) u⟩

theorem readG_alloc {c : Cf} {ca : Option Addr} {cc : Nat} {w wn wm : World} (K R S PK PV : Int) (h : HeldR c ca cc w wn) (hb : Below wn.drew.heap.size wn.drew wm) :
    ReadG c ca cc K R S PK PV w wm.heap.size (.slice none 0 0) (wm.alloc (.cells #[.int .i64 K, .int .i64 R, .int .i64 S, .int .i64 PK, .int .i64 PV, .slice none 0 0] 32)) := by
  have h2 := (h.next (Below.refl _ wn).drew).next hb
  exact ⟨h2.1.alloc h2.1.size _, h2.2.1.alloc _, h2.2.2.alloc _, h2.2.2.lt, Blk.new wm _ _⟩

theorem readG_set {c : Cf} {ca : Option Addr} {cc : Nat} {w wn wm : World} (K R S PK PV : Int) (h : HeldR c ca cc w wn) (hb : Below (wn.alloc (.cells zeroBox 32)).drew.heap.size (wn.alloc (.cells zeroBox 32)).drew wm) (hx : Blk wm wn.heap.size 32 zeroBox) :
    ReadG c ca cc K R S PK PV w wn.heap.size (.slice none 0 0) ((((((wm.setCell ⟨wn.heap.size, 0, none⟩ (.int .i64 K)).setCell ⟨wn.heap.size, 1, none⟩ (.int .i64 R)).setCell ⟨wn.heap.size, 2, none⟩ (.int .i64 S)).setCell
        ⟨wn.heap.size, 3, none⟩ (.int .i64 PK)).setCell ⟨wn.heap.size, 4, none⟩ (.int .i64 PV)).setCell ⟨wn.heap.size, 5, none⟩ (.slice none 0 0)) := by
  have hg := h.2.2.lt
  have h2 := ((h.next (alloc_below wn _)).next (Below.refl _ _).drew).next hb
  have h3 := ((((((h2.set hg 0 (.int .i64 K)).set hg 1 (.int .i64 R)).set hg 2 (.int .i64 S)).set hg 3 (.int .i64 PK)).set hg 4 (.int .i64 PV)).set hg 5 (.slice none 0 0))
  exact ⟨h3.1, h3.2.1, h3.2.2, hg, ((((((hx.set 0 (.int .i64 K)).set 1 (.int .i64 R)).set 2 (.int .i64 S)).set 3 (.int .i64 PK)).set 4 (.int .i64 PV)).set 5 (.slice none 0 0))⟩

/-- The loop over the items. -/
def ReadAt (c : Cf) (ca : Option Addr) (cc : Nat) (K R S PK PV : Int) (b : List UInt8) (w : World) (g : Nat) (i : Value) (wx : World) : Prop :=
  ∃ (k p : Nat) (v : Value), p = 34 + 10 * k ∧ p ≤ b.length ∧ i = .int .i64 p ∧ ReadG c ca cc K R S PK PV w g v wx ∧ OwnT (g + 1) wx v (itsOf (b.drop 34) k)

attribute [local irreducible] num0 itOf

set_option maxHeartbeats 6400000 in
theorem rRead_any2 (c : Cf) (ca : Option Addr) (cc : Nat) (l : List UInt8) (w : World) (hc : c.Ok) (hs : l.length ≤ 1048576) :
    Calls Tryz.prog 25 #[.agg #[.int .i64 c.N, .int .i64 c.Pi, .int .i64 c.E, .int .i64 c.G, .int .i64 c.F, .slice ca c.P.length cc], .string ⟨l.toArray⟩] w (ReadRet2 (readF c l) w) := by
  obtain ⟨b, er, hbe⟩ : ∃ b e, openP l = (b, e) := ⟨_, _, rfl⟩
  have hbl := open_len l
  rw [hbe] at hbl
  simp only at hbl
  have HO := Lib.hid (fun W => ropen_any l W hs)
  have HQ := Lib.hid (show openR l = .tuple #[.string ⟨b.toArray⟩, .int .i64 er] by unfold openR; rw [hbe])
  rw [HQ.out] at HO
  have hB0 : Below w.heap.size w ((w.alloc (.cells #[.int .i64 c.N, .int .i64 c.Pi, .int .i64 c.E, .int .i64 c.G, .int .i64 c.F, .slice ca c.P.length cc] 24)).alloc (.cells zeroBox 32)) := (alloc_below w _).alloc (by simp) _
  have hC0 : Blk ((w.alloc (.cells #[.int .i64 c.N, .int .i64 c.Pi, .int .i64 c.E, .int .i64 c.G, .int .i64 c.F, .slice ca c.P.length cc] 24)).alloc (.cells zeroBox 32)) w.heap.size 24 (confBox c ca cc) := (Blk.new w _ _).alloc _
  have hZ0 : Blk ((w.alloc (.cells #[.int .i64 c.N, .int .i64 c.Pi, .int .i64 c.E, .int .i64 c.G, .int .i64 c.F, .slice ca c.P.length cc] 24)).alloc (.cells zeroBox 32)) (w.heap.size + 1) 32 zeroBox := Blk.newAt _ _ (by simp)
  by_cases he : er = 0
  · subst he
    have HR := Lib.hid (readF_ok c l b hbe)
    clear hbe HQ
    by_cases h34 : b.length < 34
    · have HF := Lib.hid (show readF c l = (zeroF, 3) by rw [HR.out, readB_cut c b h34])
      have d1 : decide ((b.length : Int) < 34) = true := by simp; omega
      go_enter Tryz.func25, Tryz.ntmps25
      go_wp2_with fail
      refine (HO.out _).mono ?_
      rintro e wn ⟨rfl, hb⟩
      have hB := hB0.trans (hb.mono hB0.size)
      have hZ := hZ0.later hb
      have hQ := hZ.at
      have hF := hZ.frozen
      unfold zeroBox at hQ
      go_wp2
      exact read_end zeroF 3 w wn none 0 hB hZ (OwnT.nil _ _) (by decide) (fun t ht => by simp [zeroF] at ht) HF.out
    · have h34' : (34 : Int) ≤ (b.length : Int) := by omega
      have d1 : decide ((b.length : Int) < 34) = false := by simp; omega
      go_enter Tryz.func25, Tryz.ntmps25
      go_wp2_with fail
      refine (HO.out _).mono ?_
      rintro e wn ⟨rfl, hb⟩
      have hH : HeldR c ca cc w wn := HeldR.next ⟨hB0, hC0, hZ0⟩ hb
      clear hb hB0 hC0 hZ0 HO
      go_upto_region 6 with fail
      go_cut [8] (fun s8 wx => ∃ g, s8 = .pointer (some ⟨g, 0, none⟩) ∧ ReadG c ca cc (num0 (b.take 2)) (num0 ((b.drop 2).take 16)) (num0 ((b.drop 18).take 6)) (itOf ((b.drop 24).take 10)).K (itOf ((b.drop 24).take 10)).V w g (.slice none 0 0) wx)
      case first =>
        have s1 : (2 : Int) ≤ (b.length : Int) := by omega
        have s2 : (18 : Int) ≤ (b.length : Int) := by omega
        have s3 : (24 : Int) ≤ (b.length : Int) := by omega
        have hg := hH.2.2.lt
        go_region_held3 (fun W => True) (trivial)
          (first
          | (go_at_call 46; refine (rnumber_any _ _ ?_).mono ?_; (simp; omega); rintro e wl ⟨rfl, rfl⟩)
          | (go_at_call 47; refine (rread_any _ _ ?_ ?_).mono ?_; (simp; omega); (simp; omega); rintro e wm ⟨rfl, hbm⟩; (try have hx := (Blk.drew1 (Blk.new wn 32 zeroBox)).later hbm); (try have hxq := hx.at); (try have hxf := hx.frozen); (try unfold zeroBox at hxq)))
        all_goals go_wp2_with fail
        all_goals go_meet
        all_goals refine ⟨_, rfl, ?_⟩
        all_goals first
          | (have hx2 := hx; exact readG_set _ _ _ _ _ hH hbm hx2)
          | exact readG_alloc _ _ _ _ _ hH hbm
      case rest =>
        obtain ⟨g, rfl, hG⟩ := hcut
        clear hH
        have HFr := Lib.hid (show frOf b = ⟨num0 (b.take 2), num0 ((b.drop 2).take 16), num0 ((b.drop 18).take 6), itOf ((b.drop 24).take 10), []⟩ from rfl)
        generalize num0 (b.take 2) = fK at *
        generalize num0 ((b.drop 2).take 16) = fR at *
        generalize num0 ((b.drop 18).take 6) = fS at *
        generalize itOf ((b.drop 24).take 10) = ft at *
        have HL := Lib.hid (show (b.length : Int) - 34 ≠ 10 * echoI c fK fS → readF c l = (zeroF, 2) from fun h => by rw [HR.out]; exact readB_long c b h34 (by rw [HFr.out]; exact h))
        have HC := Lib.hid (show ∀ e, (b.length : Int) - 34 = 10 * echoI c fK fS → checkF c ⟨fK, fR, fS, ft, itsOf (b.drop 34) ((b.length - 34) / 10)⟩ = e → e ≠ 0 → readF c l = (zeroF, e) from fun e h h2 h3 => by
          rw [HR.out]; exact readB_check c b h34 (by rw [HFr.out]; exact h) e (by rw [HFr.out]; exact h2) h3)
        have HK := Lib.hid (show (b.length : Int) - 34 = 10 * echoI c fK fS → checkF c ⟨fK, fR, fS, ft, itsOf (b.drop 34) ((b.length - 34) / 10)⟩ = 0 → readF c l = (⟨fK, fR, fS, ft, itsOf (b.drop 34) ((b.length - 34) / 10)⟩, 0) from fun h h2 => by
          rw [HR.out, readB_ok c b h34 (by rw [HFr.out]; exact h) (by rw [HFr.out]; exact h2), HFr.out]; rfl)
        clear HFr HR
        obtain ⟨hB, hC, hZ, hgt, hg⟩ := hG
        have q1 := hC.at
        unfold confBox at q1
        have q3 := hg.at
        have he : 0 ≤ echoI c fK fS ∧ echoI c fK fS ≤ 15 := by
          have := hc.n6; have := hc.n12; have := hc.len
          unfold echoI slotsI
          split <;> omega
        obtain ⟨he0, he1⟩ := he
        go_wp2_with fail
        refine (rechoes_any c ca cc _ _ _ hc).mono ?_
        rintro e wm ⟨rfl, hb⟩
        replace hB := hB.trans (hb.mono hB.size)
        replace hC := hC.later hb
        replace hZ := hZ.later hb
        replace hg := hg.later hb
        clear hb q1 q3
        generalize echoI c fK fS = en at *
        by_cases hL : (b.length : Int) - 34 = 10 * en
        · have d2 : ((b.length : Int) - 34 != 10 * en) = false := by simpa using hL
          replace HC := Lib.hid (fun e => HC.out e hL)
          replace HK := Lib.hid (HK.out hL)
          clear HL
          have hmod : ∃ q : Nat, b.length = 34 + 10 * q ∧ (b.length - 34) / 10 = q := ⟨(b.length - 34) / 10, by omega, rfl⟩
          obtain ⟨q, hq, hq2⟩ := hmod
          rw [hq2] at HC HK
          have Hq := Lib.hid hq
          have hlb : b.length ≤ 184 := by omega
          clear hL hq hq2
          go_wp2
          go_loopw [9] (fun i w' => ReadAt c ca cc fK fR fS ft.K ft.V b w g i w') (fun i _ => b.length - (intOf i).toNat)
          case atStart => exact ⟨0, 34, _, rfl, by omega, rfl, ⟨hB, hC, hZ, hgt, hg⟩, OwnT.nil _ _⟩
          case round =>
            clear hB hC hZ hg
            obtain ⟨k, p, v, hp, hpl, rfl, ⟨hB, hC, hZ, _, hg⟩, hown⟩ := hrel
            have Hp := Lib.hid hp
            clear hp
            have q3 := hg.at
            have f3 := hg.frozen
            by_cases hlt : p < b.length
            · have dk : decide (p < b.length) = true := by simpa using hlt
              have hp10 : p + 10 ≤ b.length := by have := Hp.out; have := Hq.out; omega
              have HS := Lib.hid (show itsOf (b.drop 34) (k + 1) = itsOf (b.drop 34) k ++ [itOf ((b.drop p).take 10)] by rw [itsOf_succ, List.drop_drop, Hp.out])
              have hll : (itsOf (b.drop 34) k).length ≤ 1000 := by rw [itsOf_len]; have := Hp.out; omega
              have g0 : (0 : Int) ≤ (p : Int) := by omega
              have g1 : (p : Int) + 10 ≤ (b.length : Int) := by omega
              have z0 : IntKind.i64.wrap ((p : Int) + 10) = (p : Int) + 10 := wrap_in _ (by omega) (by omega)
              have z1 : (0 : Int) ≤ (p : Int) + 10 := by omega
              have z2 : (p : Int) ≤ (p : Int) + 10 := by omega
              have z3 : ((p : Int) + 10).toNat - p = 10 := by omega
              have HR2 := Lib.hid (fun W => rread_any ((b.drop p).take 10) W (by simp; omega) (by simp; omega))
              generalize itsOf (b.drop 34) k = TS at *
              generalize itOf ((b.drop p).take 10) = t at *
              obtain ⟨av, cv, rfl⟩ := hown.form
              have hol := hown.lt
              have hglt := hg.lt
              have hsz := hB.size
              go_wp2_with fail
              go_region_law (first
                | (refine step_appT _ (by rfl) (.tmp 55) (.tmp 62) (by rfl) (g + 1) (.slice av TS.length cv) TS (by simp [Act.eval]) (hown.later (((Below.refl _ wr).drew.trans hb).alloc hb.size _)) wl.heap.size 1 t (by simp [Act.eval]) (heap_alloc_new _ _) (by omega) (by have h0 : wr.heap.size ≤ wl.heap.size := hb.size; simp; omega) ?_; intro g' cap' w2 h1' h2' h3' h4'; have k3w := (Blk.alloc k3l (.cells #[.int .i64 t.K, .int .i64 t.V] 29)).grown h2' (fun e => by have := (hol _ e.symm).1; omega); have q3w := k3w.at 5; have f3w := k3w.frozen 5)
                | (go_simp; go_at_call 47; refine (HR2.out _).mono ?_; rintro e wl ⟨rfl, hb⟩; have k3l := (Blk.drew1 hg).later hb; have q3l := k3l.at 5; have q3m := fun o : Obj => (k3l.alloc o).at 5))
              all_goals
                have hG : ∀ g', (Value.slice av TS.length cv).ownBlock = some g' → w.heap.size ≤ g' := fun g' hg' => by have := (hol g' hg').1; omega
                have h0 : wr.heap.size ≤ wl.heap.size := hb.size
                go_wp2
                go_roundw
                case rel =>
                  refine ⟨k + 1, p + 10, _, by have := Hp.out; omega, hp10, by go_num, ⟨?_, ?_, ?_, hgt, k3w.set 5 _⟩, ?_⟩
                  · exact (below_grown (((hB.drew.trans (hb.mono hsz))).alloc (by omega) _) (by simp; omega) h2' hG).setCell (by show w.heap.size ≤ g; omega) _
                  · exact ((Blk.alloc ((Blk.drew1 hC).later hb) _).grown h2' (fun e => by have := (hol _ e.symm).1; omega)).far (by show w.heap.size ≠ g; omega) _
                  · exact ((Blk.alloc ((Blk.drew1 hZ).later hb) _).grown h2' (fun e => by have := (hol _ e.symm).1; omega)).far (by show w.heap.size + 1 ≠ g; omega) _
                  · rw [HS.out]
                    exact h1'.far ⟨g, 5, none⟩ _ (by simp)
                case measure => simp [intOf]; omega
            · have dk : decide (p < b.length) = false := by simpa using hlt
              have hkq : k = q := by have := Hp.out; have := Hq.out; omega
              subst hkq
              have hq5 : k ≤ 15 := by have := Hq.out; omega
              have hin := itsOf_in (b.drop 34) k
              have hll : (itsOf (b.drop 34) k).length ≤ 1000000 := by rw [itsOf_len]; omega
              generalize itsOf (b.drop 34) k = TS at *
              obtain ⟨av, cv, rfl⟩ := hown.form
              have q1 := hC.at
              unfold confBox at q1
              have hrT := hown.row (by omega) hin
              have HCk := Lib.hid (fun W (h : RowT W av TS) => rCheck5_any c ca cc ⟨fK, fR, fS, ft, TS⟩ av cv W hc h)
              cases hce : (checkF c ⟨fK, fR, fS, ft, TS⟩ == 0)
              · have hce' : checkF c ⟨fK, fR, fS, ft, TS⟩ ≠ 0 := by simpa using hce
                have HF := Lib.hid (HC.out _ rfl hce')
                have d3 : (checkF c ⟨fK, fR, fS, ft, TS⟩ != 0) = true := by rw [bne, hce]; rfl
                clear hce hce' HC HK
                generalize checkF c ⟨fK, fR, fS, ft, TS⟩ = er at *
                go_wp2_with fail
                refine (HCk.out _ hrT).mono ?_
                rintro e wq ⟨rfl, hb⟩
                replace hB := hB.trans (hb.mono hB.size)
                replace hZ := hZ.later hb
                have hQ := hZ.at
                have hF := hZ.frozen
                unfold zeroBox at hQ
                clear q1 q3 f3
                go_wp2
                exact read_end zeroF er w wq none 0 hB hZ (OwnT.nil _ _) (by decide) (fun t ht => by simp [zeroF] at ht) HF.out
              · have hce' : checkF c ⟨fK, fR, fS, ft, TS⟩ = 0 := by simpa using hce
                have HF := Lib.hid (HK.out hce')
                rw [hce'] at HCk
                clear hce hce' HC HK
                have hown2 : OwnT (w.heap.size + 2) wr (.slice av TS.length cv) TS := by
                  refine ⟨hown.1, ?_⟩
                  rcases hown.2 with h | ⟨g', cap', cur, h1, h2, h3⟩
                  · exact .inl h
                  · exact .inr ⟨g', cap', cur, h1, by omega, h3⟩
                go_wp2_with fail
                refine (HCk.out _ hrT).mono ?_
                rintro e wq ⟨rfl, hb⟩
                replace hB := hB.trans (hb.mono hB.size)
                replace hZ := hZ.later hb
                replace hg := hg.later hb
                have hown3 := hown2.later hb
                have hQ := hZ.at
                have hF := hZ.frozen
                unfold zeroBox at hQ
                clear q1 q3 f3
                have q3 := hg.at
                go_wp2
                exact read_end ⟨fK, fR, fS, ft, TS⟩ 0 w wq av cv hB hZ hown3 (by omega) hin HF.out
        · have d2 : ((b.length : Int) - 34 != 10 * en) = true := by simpa using hL
          have HF := Lib.hid (HL.out hL)
          have hQ := hZ.at
          have hF := hZ.frozen
          unfold zeroBox at hQ
          go_wp2
          exact read_end zeroF 2 w wm none 0 hB hZ (OwnT.nil _ _) (by decide) (fun t ht => by simp [zeroF] at ht) HF.out
  · have HF := Lib.hid (readF_err c l b er hbe he)
    have d1 : (er != 0) = true := by simpa using he
    clear he hbe HQ
    go_enter Tryz.func25, Tryz.ntmps25
    go_wp2_with fail
    refine (HO.out _).mono ?_
    rintro e wn ⟨rfl, hb⟩
    have hB := hB0.trans (hb.mono hB0.size)
    have hZ := hZ0.later hb
    have hQ := hZ.at
    have hF := hZ.frozen
    unfold zeroBox at hQ
    go_wp2
    exact read_end zeroF er w wn none 0 hB hZ (OwnT.nil _ _) (by decide) (fun t ht => by simp [zeroF] at ht) HF.out

theorem rRead_any (c : Cf) (ca : Option Addr) (cc : Nat) (l : List UInt8) (w : World) (hc : c.Ok) (hrow : Row w ca c.P) (hs : l.length ≤ 1048576) :
    Calls Tryz.prog 25 #[.agg #[.int .i64 c.N, .int .i64 c.Pi, .int .i64 c.E, .int .i64 c.G, .int .i64 c.F, .slice ca c.P.length cc], .string ⟨l.toArray⟩] w (ReadRet (readF c l) w) :=
  (rRead_any2 c ca cc l w hc hs).mono fun e w' ⟨a, cap, h1, h2, h3, _, h5⟩ => ⟨a, cap, h1, h2, h3, h5⟩

end Go.Proofs.YtbghpkdkfbpmeaaGreat
/-
  plaitinglaw5's own helpers: within, Item, Few.
-/
namespace Go.Proofs.YtbghpkdkfbpmeaaGreat
open Go.RowKit Plait
set_option maxRecDepth 100000
set_option linter.unusedVariables false

theorem within5_any (a n : Int) (w : World) (hn : 0 < n) (hn2 : n ≤ 1099511627776) :
    Calls Tryz.prog 34 #[.int .i64 a, .int .i64 n] w fun e w' => e = .returned (.int .i64 (a % n)) ∧ w = w' := by
  have b1 : 0 ≤ a % n := Int.emod_nonneg _ (by omega)
  have b2 : a % n < n := Int.emod_lt_of_pos _ hn
  by_cases h0 : 0 ≤ a
  · go_enter Tryz.func34, Tryz.ntmps34
    go_wp2
    go_ret
    exact ⟨rfl, rfl⟩
  · have h1 : a.tmod n = -((-a) % n) := by
      rw [show a = -(-a) by omega, Int.neg_tmod, Int.tmod_eq_emod_of_nonneg (by omega)]; simp
    have c1 : 0 ≤ (-a) % n := Int.emod_nonneg _ (by omega)
    have c2 : (-a) % n < n := Int.emod_lt_of_pos _ hn
    by_cases hz : (-a) % n = 0
    · have h2 : a.tmod n = 0 := by rw [h1, hz]; rfl
      have HF := Lib.hid (show (0 : Int) = a % n by
        have : n ∣ -a := Int.dvd_of_emod_eq_zero hz
        exact (Int.emod_eq_zero_of_dvd (Int.dvd_neg.1 this)).symm)
      clear h1 hz c1 c2 b1 b2
      go_enter Tryz.func34, Tryz.ntmps34
      go_wp2
      go_ret
      exact ⟨ret_int HF.out, rfl⟩
    · obtain ⟨r, hr⟩ : ∃ r, r = (-a) % n := ⟨_, rfl⟩
      rw [← hr] at h1 c1 c2 hz
      have HF := Lib.hid (show -r + n = a % n by
        have e := Int.emod_add_mul_ediv (-a) n
        rw [← hr] at e
        have e2 : a = (-r + n) + n * (-((-a) / n) - 1) := by rw [Int.mul_sub, Int.mul_neg]; omega
        rw [e2, Int.add_mul_emod_self_left]
        exact (Int.emod_eq_of_lt (by omega) (by omega)).symm)
      clear hr b1 b2
      go_enter Tryz.func34, Tryz.ntmps34
      go_wp2
      go_ret
      exact ⟨ret_int HF.out, rfl⟩

theorem tdiv3 (n : Int) (h1 : -9223372036854775808 ≤ n) (h2 : n ≤ 9223372036854775807) : -9223372036854775808 ≤ n.tdiv 3 ∧ n.tdiv 3 ≤ 9223372036854775807 := by
  rcases Int.le_total 0 n with h | h
  · rw [Int.tdiv_eq_ediv_of_nonneg h]; omega
  · have e : n.tdiv 3 = -((-n) / 3) := by rw [show n = -(-n) by omega, Int.neg_tdiv, Int.tdiv_eq_ediv_of_nonneg (by omega)]; simp
    rw [e]; omega

set_option maxHeartbeats 1600000 in
theorem item5_any (n : Int) (b : Bool) (w : World) (h1 : -9223372036854775808 ≤ n) (h2 : n ≤ 9223372036854775807) :
    Calls Tryz.prog 35 #[.int .i64 n, .bool b] w fun e w' => e = .returned (.agg #[.int .i64 (itemOf n b).K, .int .i64 (itemOf n b).V]) ∧ Below w.heap.size w w' := by
  obtain ⟨t1, t2⟩ := tdiv3 n h1 h2
  have hm0 : 0 ≤ n % 3 := by omega
  have hm3 : n % 3 < 3 := by omega
  have HW := Lib.hid (fun W => within5_any (n.tdiv 3) 256 W (by omega) (by omega))
  have HM := Lib.hid (fun W => within5_any n 3 W (by omega) (by omega))
  have HI := Lib.hid (show itemOf n b = if (if b && n % 3 == 0 then 2 else n % 3) = 2 then ⟨2, n.tdiv 3 % 256⟩ else ⟨n % 3, 0⟩ from rfl)
  generalize n.tdiv 3 % 256 = v at *
  rcases (by omega : n % 3 = 0 ∨ n % 3 = 1 ∨ n % 3 = 2) with h | h | h
  · rw [h] at HM HI
    cases b
    · have HF := Lib.hid (show itemOf n false = ⟨0, 0⟩ by rw [HI.out]; rfl)
      go_enter Tryz.func35, Tryz.ntmps35
      go_wp2_with fail
      refine (HM.out _).mono ?_
      rintro e wl ⟨rfl, rfl⟩
      go_wp2
      refine bodyPost_ret (v := .agg #[.int .i64 0, .int .i64 0]) (by simp [results, Tryz.results35, go_sem]) rfl ⟨by rw [HF.out], alloc_below _ _⟩
    · have HF := Lib.hid (show itemOf n true = ⟨2, v⟩ by rw [HI.out]; rfl)
      go_enter Tryz.func35, Tryz.ntmps35
      go_wp2_with fail
      refine (HM.out _).mono ?_
      rintro e wl ⟨rfl, rfl⟩
      go_wp2_with fail
      refine (HW.out _).mono ?_
      rintro e wl ⟨rfl, rfl⟩
      go_wp2
      refine bodyPost_ret (v := .agg #[.int .i64 2, .int .i64 v]) (by simp [results, Tryz.results35, go_sem]) rfl ⟨by rw [HF.out], alloc_below _ _⟩
  · rw [h] at HM HI
    have HF := Lib.hid (show itemOf n b = ⟨1, 0⟩ by rw [HI.out]; cases b <;> rfl)
    cases b
    all_goals
      go_enter Tryz.func35, Tryz.ntmps35
      go_wp2_with fail
      refine (HM.out _).mono ?_
      rintro e wl ⟨rfl, rfl⟩
      go_wp2
      refine bodyPost_ret (v := .agg #[.int .i64 1, .int .i64 0]) (by simp [results, Tryz.results35, go_sem]) rfl ⟨by rw [HF.out], alloc_below _ _⟩
  · rw [h] at HM HI
    have HF := Lib.hid (show itemOf n b = ⟨2, v⟩ by rw [HI.out]; cases b <;> rfl)
    cases b
    all_goals
      go_enter Tryz.func35, Tryz.ntmps35
      go_wp2_with fail
      refine (HM.out _).mono ?_
      rintro e wl ⟨rfl, rfl⟩
      go_wp2_with fail
      refine (HW.out _).mono ?_
      rintro e wl ⟨rfl, rfl⟩
      go_wp2
      refine bodyPost_ret (v := .agg #[.int .i64 2, .int .i64 v]) (by simp [results, Tryz.results35, go_sem]) rfl ⟨by rw [HF.out], alloc_below _ _⟩

end Go.Proofs.YtbghpkdkfbpmeaaGreat

/-
  Contracts of plaitingref5, sixth part: frames of texts.
-/
import Derived.Test.YtbghpkdkfbpmeaaOwn2
namespace Go.Proofs.Ytbghpkdkfbpmeaa
open Go.RowKit Plait
set_option maxRecDepth 100000
set_option linter.unusedVariables false

/-- What a call answers that reads a frame. -/
def ReadRet (p : Fr × Int) (w : World) (e : Ending) (w' : World) : Prop :=
  ∃ (a : Option Addr) (cap : Nat), e = .returned (.tuple #[.agg #[.int .i64 p.1.K, .int .i64 p.1.R, .int .i64 p.1.S, .int .i64 p.1.P.K, .int .i64 p.1.P.V, .slice a p.1.E.length cap], .int .i64 p.2]) ∧ RowT w' a p.1.E ∧ (∀ x, a = some x → w.heap.size ≤ x.block) ∧ Below w.heap.size w w'

/-- An empty frame's box. -/
def zeroBox : Array Value := #[.int .i64 0, .int .i64 0, .int .i64 0, .int .i64 0, .int .i64 0, .slice none 0 0]

theorem open_len (l : List UInt8) : (openP l).1.length ≤ l.length := by
  unfold openP
  split
  · simp
  · split
    · simp
    · split
      · show (l.take _).length ≤ _
        rw [List.length_take]; omega
      · simp

theorem itsOf_succ (l : List UInt8) (k : Nat) : itsOf l (k + 1) = itsOf l k ++ [itOf ((l.drop (10 * k)).take 10)] := by simp [itsOf, List.range_succ]
theorem itsOf_len (l : List UInt8) (k : Nat) : (itsOf l k).length = k := by simp [itsOf]
theorem itOf_in (l : List UInt8) : inI (itOf l).K ∧ inI (itOf l).V := by
  have h1 := num0_range (l.take 2) 2 (by rw [List.length_take]; omega)
  have h2 := num0_range ((l.drop 2).take 8) 8 (by rw [List.length_take]; omega)
  unfold itOf inI
  simp only
  omega
theorem itsOf_in (l : List UInt8) (k : Nat) : ∀ t ∈ itsOf l k, inI t.K ∧ inI t.V := by
  intro t ht
  unfold itsOf at ht
  rw [List.mem_map] at ht
  obtain ⟨i, _, rfl⟩ := ht
  exact itOf_in _

theorem readF_err (c : Cf) (l b : List UInt8) (e : Int) (h : openP l = (b, e)) (he : e ≠ 0) : readF c l = (zeroF, e) := by unfold readF; rw [h]; simp [he]
theorem readF_ok (c : Cf) (l b : List UInt8) (h : openP l = (b, 0)) : readF c l = readB c b := by unfold readF; rw [h]; simp
theorem readB_cut (c : Cf) (b : List UInt8) (h : b.length < 34) : readB c b = (zeroF, 3) := by unfold readB; rw [if_pos h]
theorem readB_long (c : Cf) (b : List UInt8) (h : ¬ b.length < 34) (h2 : (b.length : Int) - 34 ≠ 10 * echoI c (frOf b).K (frOf b).S) : readB c b = (zeroF, 2) := by unfold readB; rw [if_neg h, if_pos h2]
theorem readB_check (c : Cf) (b : List UInt8) (h : ¬ b.length < 34) (h2 : (b.length : Int) - 34 = 10 * echoI c (frOf b).K (frOf b).S) (e : Int) (he : checkF c ((frOf b).with (itsOf (b.drop 34) ((b.length - 34) / 10))) = e) (h3 : e ≠ 0) : readB c b = (zeroF, e) := by
  unfold readB
  rw [if_neg h, if_neg (by omega), he, if_pos h3]
theorem readB_ok (c : Cf) (b : List UInt8) (h : ¬ b.length < 34) (h2 : (b.length : Int) - 34 = 10 * echoI c (frOf b).K (frOf b).S) (he : checkF c ((frOf b).with (itsOf (b.drop 34) ((b.length - 34) / 10))) = 0) : readB c b = ((frOf b).with (itsOf (b.drop 34) ((b.length - 34) / 10)), 0) := by
  unfold readB
  rw [if_neg h, if_neg (by omega), he, if_neg (by simp)]

/-- Where the frame that is read stands, boxed at g. -/
def ReadG (c : Cf) (ca : Option Addr) (cc : Nat) (K R S PK PV : Int) (w : World) (g : Nat) (v : Value) (wx : World) : Prop :=
  Below w.heap.size w wx ∧ Blk wx w.heap.size 24 (confBox c ca cc) ∧ Blk wx (w.heap.size + 1) 82 zeroBox ∧ w.heap.size + 1 < g ∧
    Blk wx g 82 #[.int .i64 K, .int .i64 R, .int .i64 S, .int .i64 PK, .int .i64 PV, v]

/-- What holds on while the frame's parts are read. -/
def HeldR (c : Cf) (ca : Option Addr) (cc : Nat) (w W : World) : Prop := Below w.heap.size w W ∧ Blk W w.heap.size 24 (confBox c ca cc) ∧ Blk W (w.heap.size + 1) 82 zeroBox
theorem HeldR.next {c : Cf} {ca : Option Addr} {cc : Nat} {w W W' : World} (h : HeldR c ca cc w W) (hb : Below W.heap.size W W') : HeldR c ca cc w W' := ⟨h.1.trans (hb.mono h.1.size), h.2.1.later hb, h.2.2.later hb⟩

theorem HeldR.set {c : Cf} {ca : Option Addr} {cc : Nat} {w W : World} (h : HeldR c ca cc w W) {g : Nat} (hg : w.heap.size + 1 < g) (k : Nat) (u : Value) : HeldR c ca cc w (W.setCell ⟨g, k, none⟩ u) :=
  ⟨h.1.setCell (by show w.heap.size ≤ g; omega) u, h.2.1.far (by show w.heap.size ≠ g; omega) u, h.2.2.far (by show w.heap.size + 1 ≠ g; omega) u⟩

theorem readG_alloc {c : Cf} {ca : Option Addr} {cc : Nat} {w wn wm : World} (K R S PK PV : Int) (h : HeldR c ca cc w wn) (hb : Below wn.drew.heap.size wn.drew wm) :
    ReadG c ca cc K R S PK PV w wm.heap.size (.slice none 0 0) (wm.alloc (.cells #[.int .i64 K, .int .i64 R, .int .i64 S, .int .i64 PK, .int .i64 PV, .slice none 0 0] 82)) := by
  have h2 := (h.next (Below.refl _ wn).drew).next hb
  exact ⟨h2.1.alloc h2.1.size _, h2.2.1.alloc _, h2.2.2.alloc _, h2.2.2.lt, Blk.new wm _ _⟩

theorem readG_set {c : Cf} {ca : Option Addr} {cc : Nat} {w wn wm : World} (K R S PK PV : Int) (h : HeldR c ca cc w wn) (hb : Below (wn.alloc (.cells zeroBox 82)).drew.heap.size (wn.alloc (.cells zeroBox 82)).drew wm) (hx : Blk wm wn.heap.size 82 zeroBox) :
    ReadG c ca cc K R S PK PV w wn.heap.size (.slice none 0 0) ((((((wm.setCell ⟨wn.heap.size, 0, none⟩ (.int .i64 K)).setCell ⟨wn.heap.size, 1, none⟩ (.int .i64 R)).setCell ⟨wn.heap.size, 2, none⟩ (.int .i64 S)).setCell
        ⟨wn.heap.size, 3, none⟩ (.int .i64 PK)).setCell ⟨wn.heap.size, 4, none⟩ (.int .i64 PV)).setCell ⟨wn.heap.size, 5, none⟩ (.slice none 0 0)) := by
  have hg := h.2.2.lt
  have h2 := ((h.next (alloc_below wn _)).next (Below.refl _ _).drew).next hb
  have h3 := ((((((h2.set hg 0 (.int .i64 K)).set hg 1 (.int .i64 R)).set hg 2 (.int .i64 S)).set hg 3 (.int .i64 PK)).set hg 4 (.int .i64 PV)).set hg 5 (.slice none 0 0))
  exact ⟨h3.1, h3.2.1, h3.2.2, hg, ((((((hx.set 0 (.int .i64 K)).set 1 (.int .i64 R)).set 2 (.int .i64 S)).set 3 (.int .i64 PK)).set 4 (.int .i64 PV)).set 5 (.slice none 0 0))⟩

/-- The loop over the items. -/
def ReadAt (c : Cf) (ca : Option Addr) (cc : Nat) (K R S PK PV : Int) (b : List UInt8) (w : World) (g : Nat) (i : Value) (wx : World) : Prop :=
  ∃ (k p : Nat) (v : Value), p = 34 + 10 * k ∧ p ≤ b.length ∧ i = .int .i64 p ∧ ReadG c ca cc K R S PK PV w g v wx ∧ OwnT (g + 1) wx v (itsOf (b.drop 34) k)

attribute [local irreducible] num0 itOf

end Go.Proofs.Ytbghpkdkfbpmeaa

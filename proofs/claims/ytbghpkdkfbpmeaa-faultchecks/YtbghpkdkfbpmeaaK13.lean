/-
  What the frames of the laws over networks and frames use: networks, frames, rows and texts as the walks are told of them.
-/
import Derived.Test.YtbghpkdkfbpmeaaRows
import Derived.Test.YtbghpkdkfbpmeaaK6
import Derived.ProofKit
import Derived.OpenShut
import Derived.ShutString
import Derived.ChangeOld
import Derived.Lib.SmallJoins
import Derived.Test.YtbghpkdkfbpmeaaK8
namespace Go.Proofs.Ytbghpkdkfbpmeaa
open Go.ChangeShapes Go.WideShapes Go.ChangeAt Go.RowKit Go.Joins Go.Deep Plait
set_option maxRecDepth 100000
set_option linter.unusedVariables false

theorem own : ownKnob Try.prog.godebug = none := by kernel_rfl
theorem laidOut : laidOutB Try.prog = true := by kernel_rfl

theorem wf_lo {x : Int} (h : (Lit.int .i64 x).wf = true) : -9223372036854775808 ≤ x := (bounds_i64 h).1
theorem wf_hi {x : Int} (h : (Lit.int .i64 x).wf = true) : x ≤ 9223372036854775807 := (bounds_i64 h).2

theorem row_of {w : World} {x : Addr} {len cap : Nat} {zs : List Int} (hl : len ≤ cap) (hm : cap ≤ maxLen) (hz : len ≤ zs.length)
    (hcell : ∀ i, i < zs.length → w.cell? (x.add i) = some (.int .i64 (zs.getD i 0))) (hwz : ∀ n ∈ zs, (Lit.int .i64 n).wf = true) :
    ∃ ys : List Int, len = ys.length ∧ Row w (some x) ys := by
  have hlen : (zs.take len).length = len := by rw [List.length_take]; omega
  refine ⟨zs.take len, hlen.symm, by rw [hlen]; unfold maxLen at hm; omega, fun z hz' => bounds_i64 (hwz z (List.mem_of_mem_take hz')), ?_⟩
  by_cases h0 : len = 0
  · left
    rw [h0]
    rfl
  · right
    obtain ⟨b, off, spot⟩ := x
    have hc := hcell 0 (by omega)
    have hspot : spot = none := by simpa [Addr.add] using World.cell?_spot hc
    subst hspot
    rw [addr_at] at hc
    refine ⟨b, off, rfl, World.block_lt_of_cell? _ _ hc, fun i hi => ?_⟩
    have hi' : i < zs.length := by rw [hlen] at hi; omega
    have := hcell i hi'
    rw [addr_at] at this
    rw [this, List.getElem_take, List.getD_eq_getElem?_getD, List.getElem?_eq_getElem hi']
    rfl

/-- A network that came in. -/
theorem open_conf {H : Type} {enc : TypeId × Value → H} {W : World} {base b0 : Nat} {spare : Nat → Bool} {held : Bool} {r : Reach} {v : Value} {d : DataW H} {p : List MemPlace}
    (hv : Value.okWide Try.prog W r b0 24 v) (h : DataW.Trod enc Try.prog W base spare held 24 v d p) :
    ∃ (c : Cf) (a : Option Addr) (cap : Nat), v = .agg #[.int .i64 c.N, .int .i64 c.Pi, .int .i64 c.E, .int .i64 c.G, .int .i64 c.F, .slice a c.P.length cap] ∧ Row W a c.P ∧ inI c.N ∧ inI c.Pi ∧ inI c.E ∧ inI c.G ∧ inI c.F := by
  obtain ⟨cs, rfl, hsz⟩ := okWide_struct Try.underlying24 hv
  obtain ⟨l⟩ := cs
  have hC : Try.prog.cellsOf 24 = 6 := by kernel_rfl
  match l, hsz.trans hC with
  | [c0, c1, c2, c3, c4, c5], _ =>
    obtain ⟨fuel, hf⟩ := h
    obtain ⟨xs, n, _, hx, _, hlen, hg⟩ := DataW.trod_struct Try.underlying24 hf
    have k3 : Try.prog.cellsOf 3 = 1 := by kernel_rfl
    have k22 : Try.prog.cellsOf 22 = 1 := by kernel_rfl
    match xs, hlen with
    | [y0, y1, y2, y3, y4, y5], _ =>
      have t0 := hg 0 _ rfl
      have t1 := hg 1 _ rfl
      have t2 := hg 2 _ rfl
      have t3 := hg 3 _ rfl
      have t4 := hg 4 _ rfl
      have t5 := hg 5 _ rfl
      simp [Value.cells, k3, k22] at t0 t1 t2 t3 t4 t5
      obtain ⟨n0, e0, _, w0⟩ := DataW.trod_int Try.underlying3 t0
      obtain ⟨n1, e1, _, w1⟩ := DataW.trod_int Try.underlying3 t1
      obtain ⟨n2, e2, _, w2⟩ := DataW.trod_int Try.underlying3 t2
      obtain ⟨n3, e3, _, w3⟩ := DataW.trod_int Try.underlying3 t3
      obtain ⟨n4, e4, _, w4⟩ := DataW.trod_int Try.underlying3 t4
      simp at e0 e1 e2 e3 e4
      subst e0 e1 e2 e3 e4
      have hrow : ∃ (a : Option Addr) (cap : Nat) (zs : List Int), c5 = .slice a zs.length cap ∧ Row W a zs := by
        rcases open_ints Try.underlying22 Try.underlying3 (by kernel_rfl) t5 with ⟨hcs, _⟩ | ⟨x, l, c, zs, hcs, _, hl, hm, hz, _, hcell, hwz⟩
        · simp at hcs
          exact ⟨none, 0, [], by simpa using hcs, Row.empty _ _⟩
        · simp at hcs
          obtain ⟨ys, e, hr⟩ := row_of hl hm (by rw [hz]; split <;> omega) hcell hwz
          exact ⟨some x, c, ys, by rw [hcs, e], hr⟩
      obtain ⟨a, cap, zs, rfl, hr⟩ := hrow
      exact ⟨⟨n0, n1, n2, n3, n4, zs⟩, a, cap, rfl, hr, bounds_i64 w0, bounds_i64 w1, bounds_i64 w2, bounds_i64 w3, bounds_i64 w4⟩

theorem bytes_list (s : ByteArray) : ∃ l : List UInt8, s = ⟨l.toArray⟩ := ⟨s.data.toList, by simp⟩
theorem str_le {l : List UInt8} (h : (⟨l.toArray⟩ : ByteArray).size ≤ maxLen) : l.length ≤ 9223372036854775807 := by
  rw [size_mk] at h; exact h
theorem row_nil (w : World) : ∃ zs : List Int, 0 = zs.length ∧ Row w none zs := ⟨[], rfl, Row.empty _ _⟩

theorem open_item {H : Type} {enc : TypeId × Value → H} {W : World} {base fuel : Nat} {spare : Nat → Bool} {held : Bool} {cs : List Value} {x : DataW H × List MemPlace}
    (h : DataW.trod enc Try.prog W base spare held fuel 79 cs = some x) : ∃ t : It, cs = [.int .i64 t.K, .int .i64 t.V] ∧ inI t.K ∧ inI t.V := by
  obtain ⟨xs, n, _, _, hcs, hlen, hg⟩ := DataW.trod_struct Try.underlying79 h
  have hC : Try.prog.cellsOf 79 = 2 := by kernel_rfl
  have k3 : Try.prog.cellsOf 3 = 1 := by kernel_rfl
  rw [hC] at hcs
  match cs, hcs with
  | [u0, u1], _ =>
    match xs, hlen with
    | [y0, y1], _ =>
      have t0 := hg 0 _ rfl
      have t1 := hg 1 _ rfl
      simp [k3] at t0 t1
      obtain ⟨n0, e0, _, w0⟩ := DataW.trod_int Try.underlying3 t0
      obtain ⟨n1, e1, _, w1⟩ := DataW.trod_int Try.underlying3 t1
      simp at e0 e1
      exact ⟨⟨n0, n1⟩, by rw [e0, e1], bounds_i64 w0, bounds_i64 w1⟩

theorem list_of {α : Type} [Inhabited α] (n : Nat) (Q : Nat → α → Prop) (h : ∀ i, i < n → ∃ t, Q i t) : ∃ ts : List α, ts.length = n ∧ ∀ i (hi : i < ts.length), Q i ts[i] := by
  induction n with
  | zero => exact ⟨[], rfl, fun i hi => absurd hi (by simp)⟩
  | succ n ih =>
    obtain ⟨ts, hl, hq⟩ := ih (fun i hi => h i (by omega))
    obtain ⟨t, ht⟩ := h n (by omega)
    refine ⟨ts ++ [t], by simp [hl], fun i hi => ?_⟩
    rcases Nat.lt_or_ge i ts.length with h1 | h1
    · rw [List.getElem_append_left h1]
      exact hq i h1
    · have : i = n := by simp at hi; omega
      subst this
      rw [List.getElem_append_right h1]
      simpa [hl] using ht

theorem open_items {H : Type} {enc : TypeId × Value → H} {W : World} {base fuel : Nat} {spare : Nat → Bool} {held : Bool} {v : Value} {x : DataW H × List MemPlace}
    (h : DataW.trod enc Try.prog W base spare held fuel 80 [v] = some x) : ∃ (a : Option Addr) (cap : Nat) (ts : List It), v = .slice a ts.length cap ∧ RowT W a ts := by
  have hC : Try.prog.cellsOf 79 = 2 := by kernel_rfl
  rcases DataW.trod_slice Try.underlying80 h with ⟨hcs, _⟩ | ⟨a, len, cap, elems, rest, n, _, hcs, _, _, hl, hm, hlen, hel, _⟩
  · simp at hcs
    exact ⟨none, 0, [], by simpa using hcs, RowT.empty _ _⟩
  · simp at hcs
    rw [hC] at hel
    have each : ∀ i, i < len → ∃ t : It, W.cell? (a.add (i * 2)) = some (.int .i64 t.K) ∧ W.cell? ((a.add (i * 2)).add 1) = some (.int .i64 t.V) ∧ inI t.K ∧ inI t.V := by
      intro i hi
      have he := hel i hi
      rw [List.getElem?_eq_getElem (by omega), Option.bind_eq_some_iff] at he
      obtain ⟨cs, h1, h2⟩ := he
      obtain ⟨t, rfl, k1, k2⟩ := open_item h2
      have hc := (World.cells?_some h1).2.2
      have q0 := hc 0 (by omega)
      have q1 := hc 1 (by omega)
      simp [Addr.add] at q0
      refine ⟨t, ?_, by simpa using q1, k1, k2⟩
      have : (a.add (i * 2)).add 0 = a.add (i * 2) := by obtain ⟨b, off, spot⟩ := a; simp [Addr.add]
      have q0' := hc 0 (by omega)
      rw [this] at q0'
      simpa using q0'
    obtain ⟨ts, htl, hts⟩ := list_of len _ each
    subst htl
    refine ⟨some a, cap, ts, hcs, by unfold maxLen at hm; omega, fun t ht => ?_, ?_⟩
    · obtain ⟨i, hi, rfl⟩ := List.getElem_of_mem ht
      exact (hts i hi).2.2
    · by_cases h0 : ts = []
      · exact .inl h0
      · right
        have hpos : 0 < ts.length := List.length_pos_iff.2 h0
        obtain ⟨b, off, spot⟩ := a
        have hc := (hts 0 hpos).1
        have hspot : spot = none := by simpa [Addr.add] using World.cell?_spot hc
        subst hspot
        rw [addr_at] at hc
        refine ⟨b, off, rfl, World.block_lt_of_cell? _ _ hc, fun i hi => ?_⟩
        have h1 := hts i hi
        rw [addr_at, addr_at] at h1
        exact ⟨h1.1, h1.2.1⟩

/-- A frame that came in. -/
theorem open_frame {H : Type} {enc : TypeId × Value → H} {W : World} {base b0 : Nat} {spare : Nat → Bool} {held : Bool} {r : Reach} {v : Value} {d : DataW H} {p : List MemPlace}
    (hv : Value.okWide Try.prog W r b0 82 v) (h : DataW.Trod enc Try.prog W base spare held 82 v d p) :
    ∃ (f : Fr) (a : Option Addr) (cap : Nat), v = .agg #[.int .i64 f.K, .int .i64 f.R, .int .i64 f.S, .int .i64 f.P.K, .int .i64 f.P.V, .slice a f.E.length cap] ∧ RowT W a f.E ∧ inI f.K ∧ inI f.R ∧ inI f.S ∧ inI f.P.K ∧ inI f.P.V := by
  obtain ⟨cs, rfl, hsz⟩ := okWide_struct Try.underlying82 hv
  obtain ⟨l⟩ := cs
  have hC : Try.prog.cellsOf 82 = 6 := by kernel_rfl
  match l, hsz.trans hC with
  | [c0, c1, c2, c3, c4, c5], _ =>
    obtain ⟨fuel, hf⟩ := h
    obtain ⟨xs, n, _, hx, _, hlen, hg⟩ := DataW.trod_struct Try.underlying82 hf
    have k3 : Try.prog.cellsOf 3 = 1 := by kernel_rfl
    have k26 : Try.prog.cellsOf 79 = 2 := by kernel_rfl
    have k27 : Try.prog.cellsOf 80 = 1 := by kernel_rfl
    match xs, hlen with
    | [y0, y1, y2, y3, y4], _ =>
      have t0 := hg 0 _ rfl
      have t1 := hg 1 _ rfl
      have t2 := hg 2 _ rfl
      have t3 := hg 3 _ rfl
      have t4 := hg 4 _ rfl
      simp [Value.cells, k3, k26, k27] at t0 t1 t2 t3 t4
      obtain ⟨n0, e0, _, w0⟩ := DataW.trod_int Try.underlying3 t0
      obtain ⟨n1, e1, _, w1⟩ := DataW.trod_int Try.underlying3 t1
      obtain ⟨n2, e2, _, w2⟩ := DataW.trod_int Try.underlying3 t2
      obtain ⟨t, e3, i1, i2⟩ := open_item t3
      obtain ⟨a, cap, ts, e5, hr⟩ := open_items t4
      simp at e0 e1 e2 e3
      subst e0 e1 e2 e5
      obtain ⟨rfl, rfl⟩ := e3
      exact ⟨⟨n0, n1, n2, t, ts⟩, a, cap, rfl, hr, bounds_i64 w0, bounds_i64 w1, bounds_i64 w2, i1, i2⟩

end Go.Proofs.Ytbghpkdkfbpmeaa
/-
  What the frames of the laws over loci use: a locus as the walks are told of it.
-/
namespace Go.Proofs.Ytbghpkdkfbpmeaa
open Go.ChangeShapes Go.WideShapes Go.ChangeAt Go.RowKit Go.Joins Go.Deep Plait
set_option maxRecDepth 100000
set_option linter.unusedVariables false

theorem open_act {H : Type} {enc : TypeId × Value → H} {W : World} {base fuel : Nat} {spare : Nat → Bool} {held : Bool} {cs : List Value} {x : DataW H × List MemPlace}
    (h : DataW.trod enc Try.prog W base spare held fuel 37 cs = some x) : ∃ t : Ac, cs = [.int .i64 t.H, .int .i64 t.N, .string ⟨t.T.toArray⟩] ∧ inI t.H ∧ inI t.N ∧ t.T.length ≤ 9223372036854775807 := by
  obtain ⟨xs, n, _, _, hcs, hlen, hg⟩ := DataW.trod_struct Try.underlying37 h
  have hC : Try.prog.cellsOf 37 = 3 := by kernel_rfl
  have k3 : Try.prog.cellsOf 3 = 1 := by kernel_rfl
  have k9 : Try.prog.cellsOf 9 = 1 := by kernel_rfl
  rw [hC] at hcs
  match cs, hcs with
  | [u0, u1, u2], _ =>
    match xs, hlen with
    | [y0, y1, y2], _ =>
      have t0 := hg 0 _ rfl
      have t1 := hg 1 _ rfl
      have t2 := hg 2 _ rfl
      simp [k3, k9] at t0 t1 t2
      obtain ⟨n0, e0, _, w0⟩ := DataW.trod_int Try.underlying3 t0
      obtain ⟨n1, e1, _, w1⟩ := DataW.trod_int Try.underlying3 t1
      obtain ⟨s, e2, _, w2⟩ := DataW.trod_string Try.underlying9 t2
      obtain ⟨l, rfl⟩ := bytes_list s
      simp at e0 e1 e2
      exact ⟨⟨n0, n1, l⟩, by rw [e0, e1, e2], bounds_i64 w0, bounds_i64 w1, str_le w2⟩

theorem open_acts {H : Type} {enc : TypeId × Value → H} {W : World} {base fuel : Nat} {spare : Nat → Bool} {held : Bool} {v : Value} {x : DataW H × List MemPlace}
    (h : DataW.trod enc Try.prog W base spare held fuel 25 [v] = some x) : ∃ (a : Option Addr) (cap : Nat) (ts : List Ac), v = .slice a ts.length cap ∧ RowA W a ts := by
  have hC : Try.prog.cellsOf 37 = 3 := by kernel_rfl
  rcases DataW.trod_slice Try.underlying25 h with ⟨hcs, _⟩ | ⟨a, len, cap, elems, rest, n, _, hcs, _, _, hl, hm, hlen, hel, _⟩
  · simp at hcs
    exact ⟨none, 0, [], by simpa using hcs, RowA.empty _ _⟩
  · simp at hcs
    rw [hC] at hel
    have each : ∀ i, i < len → ∃ t : Ac, W.cell? (a.add (i * 3)) = some (.int .i64 t.H) ∧ W.cell? ((a.add (i * 3)).add 1) = some (.int .i64 t.N) ∧ W.cell? ((a.add (i * 3)).add 2) = some (.string ⟨t.T.toArray⟩) ∧ inI t.H ∧ inI t.N ∧ t.T.length ≤ 9223372036854775807 := by
      intro i hi
      have he := hel i hi
      rw [List.getElem?_eq_getElem (by omega), Option.bind_eq_some_iff] at he
      obtain ⟨cs, h1, h2⟩ := he
      obtain ⟨t, rfl, k1, k2, k3⟩ := open_act h2
      have hc := (World.cells?_some h1).2.2
      have q1 := hc 1 (by omega)
      have q2 := hc 2 (by omega)
      refine ⟨t, ?_, by simpa using q1, by simpa using q2, k1, k2, k3⟩
      have : (a.add (i * 3)).add 0 = a.add (i * 3) := by obtain ⟨b, off, spot⟩ := a; simp [Addr.add]
      have q0' := hc 0 (by omega)
      rw [this] at q0'
      simpa using q0'
    obtain ⟨ts, htl, hts⟩ := list_of len _ each
    subst htl
    refine ⟨some a, cap, ts, hcs, by unfold maxLen at hm; omega, fun t ht => ?_, ?_⟩
    · obtain ⟨i, hi, rfl⟩ := List.getElem_of_mem ht
      exact (hts i hi).2.2.2
    · by_cases h0 : ts = []
      · exact .inl h0
      · right
        have hpos : 0 < ts.length := List.length_pos_iff.2 h0
        obtain ⟨b, off, spot⟩ := a
        have hc := (hts 0 hpos).1
        have hspot : spot = none := by simpa [Addr.add] using World.cell?_spot hc
        subst hspot
        rw [addr_at] at hc
        refine ⟨b, off, rfl, World.block_lt_of_cell? _ _ hc, fun i hi => ?_⟩
        have h1 := hts i hi
        rw [addr_at, addr_at, addr_at] at h1
        exact ⟨h1.1, h1.2.1, h1.2.2.1⟩

/-- A locus that came in. -/
theorem open_fault {H : Type} {enc : TypeId × Value → H} {W : World} {base b0 : Nat} {spare : Nat → Bool} {held : Bool} {r : Reach} {v : Value} {d : DataW H} {p : List MemPlace}
    (hv : Value.okWide Try.prog W r b0 27 v) (h : DataW.Trod enc Try.prog W base spare held 27 v d p) :
    ∃ (f : Fa) (a : Option Addr) (ac : Nat) (e : Option Addr) (dc : Nat), v = .agg #[.int .i64 f.K, .int .i64 f.At, .int .i64 f.F, .int .i64 f.To, .slice a f.A.length ac, .slice e f.D.length dc] ∧ RowA W a f.A ∧ Row W e f.D ∧ inI f.K ∧ inI f.At ∧ inI f.F ∧ inI f.To := by
  obtain ⟨cs, rfl, hsz⟩ := okWide_struct Try.underlying27 hv
  obtain ⟨l⟩ := cs
  have hC : Try.prog.cellsOf 27 = 6 := by kernel_rfl
  match l, hsz.trans hC with
  | [c0, c1, c2, c3, c4, c5], _ =>
    obtain ⟨fuel, hf⟩ := h
    obtain ⟨xs, n, _, hx, _, hlen, hg⟩ := DataW.trod_struct Try.underlying27 hf
    have k3 : Try.prog.cellsOf 3 = 1 := by kernel_rfl
    have k22 : Try.prog.cellsOf 22 = 1 := by kernel_rfl
    have k25 : Try.prog.cellsOf 25 = 1 := by kernel_rfl
    match xs, hlen with
    | [y0, y1, y2, y3, y4, y5], _ =>
      have t0 := hg 0 _ rfl
      have t1 := hg 1 _ rfl
      have t2 := hg 2 _ rfl
      have t3 := hg 3 _ rfl
      have t4 := hg 4 _ rfl
      have t5 := hg 5 _ rfl
      simp [Value.cells, k3, k22, k25] at t0 t1 t2 t3 t4 t5
      obtain ⟨n0, e0, _, w0⟩ := DataW.trod_int Try.underlying3 t0
      obtain ⟨n1, e1, _, w1⟩ := DataW.trod_int Try.underlying3 t1
      obtain ⟨n2, e2, _, w2⟩ := DataW.trod_int Try.underlying3 t2
      obtain ⟨n3, e3, _, w3⟩ := DataW.trod_int Try.underlying3 t3
      simp at e0 e1 e2 e3
      subst e0 e1 e2 e3
      obtain ⟨a, ac, ts, rfl, hr⟩ := open_acts t4
      have hrow : ∃ (a : Option Addr) (cap : Nat) (zs : List Int), c5 = .slice a zs.length cap ∧ Row W a zs := by
        rcases open_ints Try.underlying22 Try.underlying3 (by kernel_rfl) t5 with ⟨hcs, _⟩ | ⟨x, l, c, zs, hcs, _, hl, hm, hz, _, hcell, hwz⟩
        · simp at hcs
          exact ⟨none, 0, [], by simpa using hcs, Row.empty _ _⟩
        · simp at hcs
          obtain ⟨ys, e, hr⟩ := row_of hl hm (by rw [hz]; split <;> omega) hcell hwz
          exact ⟨some x, c, ys, by rw [hcs, e], hr⟩
      obtain ⟨e, dc, zs, rfl, hr2⟩ := hrow
      exact ⟨⟨n0, n1, n2, n3, ts, zs⟩, a, ac, e, dc, rfl, hr, hr2, bounds_i64 w0, bounds_i64 w1, bounds_i64 w2, bounds_i64 w3⟩

end Go.Proofs.Ytbghpkdkfbpmeaa
/-
  Plain mathematics of rings: a link is between its ends.
-/
namespace Plait

theorem ends_fin : ∀ n : Fin 7, ∀ k : Fin 24, k.val < 2 * (6 + n.val) → linkI (6 + (n.val : Int)) (endA (6 + (n.val : Int)) k.val) (endB (6 + (n.val : Int)) k.val) = ((k.val : Int), true) ∧ linkI (6 + (n.val : Int)) (endB (6 + (n.val : Int)) k.val) (endA (6 + (n.val : Int)) k.val) = ((k.val : Int), true) := by decide +kernel

theorem ends_any (n k : Int) (h1 : 6 ≤ n) (h2 : n ≤ 12) (k1 : 0 ≤ k) (k2 : k < 2 * n) : linkI n (endA n k) (endB n k) = (k, true) ∧ linkI n (endB n k) (endA n k) = (k, true) := by
  have hf := ends_fin ⟨(n - 6).toNat, by omega⟩ ⟨k.toNat, by omega⟩ (by show k.toNat < 2 * (6 + (n - 6).toNat); omega)
  have e1 : 6 + (((n - 6).toNat : Nat) : Int) = n := by omega
  have e2 : ((k.toNat : Nat) : Int) = k := by omega
  simp only [e1, e2] at hf
  exact hf

end Plait

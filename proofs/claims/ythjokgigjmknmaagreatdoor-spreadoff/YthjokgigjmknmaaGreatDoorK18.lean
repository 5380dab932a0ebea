/-
  Rows of a case that are changed; slices of truth values; nodes that are off.
-/
import Derived.Test.YthjokgigjmknmaaGreatDoorK17
namespace Go.Proofs.YthjokgigjmknmaaGreatDoor
open Go.RowKit Plait
set_option maxRecDepth 100000
set_option linter.unusedVariables false

/-- A slice of truth values that came in. -/
def RowBl (w : World) (a : Option Addr) (bs : List Bool) : Prop :=
  bs.length ≤ 9223372036854775807 ∧
  (bs = [] ∨ ∃ b off : Nat, a = some ⟨b, off, none⟩ ∧ b < w.heap.size ∧ ∀ i (h : i < bs.length), w.cell? ⟨b, off + i, none⟩ = some (.bool bs[i]))
theorem RowBl.later {w w1 : World} {a : Option Addr} {bs : List Bool} (h : RowBl w a bs) (hb : Below w.heap.size w w1) : RowBl w1 a bs := by
  obtain ⟨h1, h3⟩ := h
  refine ⟨h1, ?_⟩
  rcases h3 with h3 | ⟨b, off, e, hlt, hc⟩
  · exact .inl h3
  · exact .inr ⟨b, off, e, Nat.lt_of_lt_of_le hlt hb.size, fun i hi => by rw [hb.cell (p := ⟨b, off + i, none⟩) hlt]; exact hc i hi⟩
theorem RowBl.get {w : World} {a : Option Addr} {bs : List Bool} (h : RowBl w a bs) (k : Nat) (hk : k < bs.length) :
    ∃ b off : Nat, a = some ⟨b, off, none⟩ ∧ b < w.heap.size ∧ w.cell? ⟨b, off + k, none⟩ = some (.bool bs[k]) := by
  obtain ⟨_, h3⟩ := h
  rcases h3 with h3 | ⟨b, off, e, hlt, hc⟩
  · rw [h3] at hk; simp at hk
  · exact ⟨b, off, e, hlt, hc k hk⟩
theorem rowBl_nil (w : World) : ∃ bs : List Bool, 0 = bs.length ∧ RowBl w none bs := ⟨[], rfl, by simp, .inl rfl⟩
theorem rowBl_of {w : World} {x : Addr} {len cap : Nat} {B : Nat → Bool} (hl : len ≤ cap) (hm : cap ≤ maxLen) (hcell : ∀ i, i < cap → w.cell? (x.add i) = some (.bool (B i))) :
    ∃ bs : List Bool, len = bs.length ∧ RowBl w (some x) bs := by
  refine ⟨(List.range len).map B, by simp, by simp; unfold maxLen at hm; omega, ?_⟩
  by_cases h0 : len = 0
  · left; rw [h0]; rfl
  · right
    obtain ⟨b, off, spot⟩ := x
    have hc := hcell 0 (by omega)
    have hspot : spot = none := by simpa [Addr.add] using World.cell?_spot hc
    subst hspot
    rw [addr_at] at hc
    refine ⟨b, off, rfl, World.block_lt_of_cell? _ _ hc, fun i hi => ?_⟩
    have hi' : i < len := by simpa using hi
    have := hcell i (by omega)
    rw [addr_at] at this
    rw [this]
    simp

/-- A row that the call made: where it lies. -/
theorem OwnI.at {base : Nat} {W : World} {a : Option Addr} {cap : Nat} {zs : List Int} (h : OwnI base W (.slice a zs.length cap) zs) (h0 : 0 < zs.length) :
    ∃ g, a = some ⟨g, 0, none⟩ ∧ base ≤ g ∧ g < W.heap.size ∧ (∀ i (hi : i < zs.length), W.cell? ⟨g, i, none⟩ = some (.int .i64 zs[i])) ∧ ∀ i, W.frozen? ⟨g, i, none⟩ = false := by
  rcases h.2 with ⟨_, hn⟩ | ⟨g, c, cur, hv, hb, hg, hc, hm, hs, ht⟩
  · omega
  · injection hv with hv
    refine ⟨g, hv, hb, (Blk.lt hg), fun i hi => ?_, Blk.frozen hg⟩
    have hi2 : i < cur.size := by rw [hs]; omega
    have ht2 : (cur.toList.take (zs.length * 1))[i]? = (zs.map (Value.int .i64))[i]? := by rw [ht]
    rw [List.getElem?_take_of_lt (by omega), List.getElem?_map, List.getElem?_eq_getElem hi] at ht2
    have hb2 : W.cell? ⟨g, i, none⟩ = cur[i]? := Blk.at hg i
    rw [hb2, ← Array.getElem?_toList, ht2]
    rfl

/-- One of its numbers laid anew. -/
theorem OwnI.put {base : Nat} {W : World} {g cap : Nat} {zs : List Int} (h : OwnI base W (.slice (some ⟨g, 0, none⟩) zs.length cap) zs) (i : Nat) (hi : i < zs.length) (v : Int) :
    OwnI base (W.setCell ⟨g, i, none⟩ (.int .i64 v)) (.slice (some ⟨g, 0, none⟩) (zs.set i v).length cap) (zs.set i v) := by
  obtain ⟨h1, h2⟩ := h
  refine ⟨by simp, ?_⟩
  rcases h2 with ⟨hv, hn⟩ | ⟨g', c, cur, hv, hb, hg, hc, hm, hs, ht⟩
  · injection hv with hv; cases hv
  · injection hv with hv hv2 hv3
    injection hv with hv
    injection hv with hv
    subst hv hv3
    refine .inr ⟨g, cap, cur.setIfInBounds i (.int .i64 v), by simp, hb, ?_, by simpa using hc, hm, by simpa using hs, ?_⟩
    · exact Blk.set (w := W) (t := 3) hg i (.int .i64 v)
    · rw [List.length_set, Array.toList_setIfInBounds, List.take_set, ht, List.map_set]

theorem Cs.Ok.withRows {x : Cs} (h : x.Ok) (st dv : List Int) (l1 : st.length = x.st.length) (l2 : dv.length = x.dv.length) : ({ x with st := st, dv := dv } : Cs).Ok :=
  ⟨h.c, h.lA, h.t, h.r0, h.r1, h.s0, h.s1, h.d, h.sl, h.sb, h.sk, by show (st.length : Int) = _; rw [l1]; exact h.tl, by show (dv.length : Int) = _; rw [l2]; exact h.vl⟩

/-- The states with some nodes off: of the first k. -/
def stOff (bs : List Bool) (s : Int) (N k : Nat) : List Int := (List.range N).map fun i => if i < k ∧ bs.getD i false = true ∧ (i : Int) ≠ s then 0 else 4
theorem stOff_len (bs : List Bool) (s : Int) (N k : Nat) : (stOff bs s N k).length = N := by simp [stOff]
theorem stOff_zero (bs : List Bool) (s : Int) (N : Nat) : stOff bs s N 0 = List.replicate N 4 := by
  apply List.ext_getElem
  · simp [stOff]
  · intro i h1 h2
    simp [stOff]
theorem stOff_yes (bs : List Bool) (s : Int) (N k : Nat) (hk : k < N) (h : bs.getD k false = true) (hs : (k : Int) ≠ s) : stOff bs s N (k + 1) = (stOff bs s N k).set k 0 := by
  apply List.ext_getElem
  · simp [stOff]
  · intro i h1 h2
    rw [List.getElem_set]
    simp only [stOff, List.getElem_map, List.getElem_range]
    by_cases e : k = i
    · subst e
      rw [if_pos rfl, if_pos ⟨by omega, h, hs⟩]
    · rw [if_neg e]
      by_cases q : i < k
      · simp only [show i < k + 1 by omega, q, true_and]
      · rw [if_neg (by omega), if_neg (by omega)]
theorem stOff_no (bs : List Bool) (s : Int) (N k : Nat) (h : bs.getD k false = false ∨ (k : Int) = s) : stOff bs s N (k + 1) = stOff bs s N k := by
  apply List.ext_getElem
  · simp [stOff]
  · intro i h1 h2
    simp only [stOff, List.getElem_map, List.getElem_range]
    by_cases e : k = i
    · subst e
      rw [if_neg (by rintro ⟨_, q1, q2⟩; rcases h with q | q; rw [q] at q1; cases q1; exact q2 q), if_neg (by omega)]
    · by_cases q : i < k
      · simp only [show i < k + 1 by omega, q, true_and]
      · rw [if_neg (by omega), if_neg (by omega)]

/-- Without a locus: what the next one passes on. -/
theorem off_next {x : Sp} (h : x.Ok) (hp : x.pair = false) (hK : x.f.K ≠ 1) (hK2 : x.f.K ≠ 2) (hA : x.f.A = []) (hg : admitB x.c (x.st (x.nd 1)) (x.dv (x.nd 1)) = true ∨ x.st (x.nd 1) = 0) (k : Nat) :
    x.o (k + 1) = if x.st (x.nd ((k : Int) + 1)) = 0 then [] else x.o k := by
  obtain ⟨h1, h2⟩ := Sp.off h hp hK hK2 hA hg
  by_cases hz : x.st (x.nd ((k : Int) + 1)) = 0
  · rw [if_pos hz]
    exact h2 (k + 1) k (by omega) hz
  · rw [if_neg hz]
    by_cases hex : ∃ m, m < k ∧ x.st (x.nd ((m : Int) + 1)) = 0
    · obtain ⟨m, hm, hmz⟩ := hex
      rw [h2 (k + 1) m (by omega) hmz, h2 k m hm hmz]
    · have hall : ∀ j : Nat, j < k → x.st (x.nd ((j : Int) + 1)) ≠ 0 := fun j hj e => hex ⟨j, hj, e⟩
      rw [h1 k hall, h1 (k + 1) (fun j hj => by
        rcases (by omega : j < k ∨ j = k) with q | q
        · exact hall j q
        · subst q; exact hz)]

theorem sp_nd {x : Cs} (h : x.Ok) (hs : x.s < x.c.N) (k : Int) : x.sp.nd k = (x.s + x.d * k) % x.c.N := by
  show (lastI (owners x.c x.s) x.d + x.d * k) % x.c.N = _
  rw [own_one x.c x.s h.s0 hs]
  have : lastI [x.s] x.d = x.s := by unfold lastI; split <;> rfl
  rw [this]

/-- A node's own slot without a locus: what the node k steps on had. -/
theorem off_facts {x : Cs} (h : x.Ok) (hs : x.s < x.c.N) (hK : x.f.K = 0) (hA : x.f.A = []) (hv : x.dv = List.replicate x.c.N.toNat 0) (h04 : ∀ z ∈ x.st, z = 0 ∨ z = 4) :
    x.sp.o 0 = x.sends.getD 0 [] ∧ (∀ k : Nat, (k : Int) < x.c.N → (x.end ((x.s + x.d * (k : Int)) % x.c.N).toNat).O = x.sp.o k ∧ (x.end ((x.s + x.d * (k : Int)) % x.c.N).toNat).F = k) ∧
      ∀ k : Nat, x.sp.o (k + 1) = if x.st.getD ((x.s + x.d * ((k : Int) + 1)) % x.c.N).toNat 0 = 0 then [] else x.sp.o k := by
  have ok := Cs.sp_ok h hs
  have n6 := h.c.n6
  refine ⟨Cs.sp_snd h hs, fun k hk => ?_, fun k => ?_⟩
  · have := end_own (f := x.f) (r := x.r) (st := x.st) (dv := x.dv) (h.call (by rw [own_one x.c x.s h.s0 hs]; simp)) hs k hk
    have e : (spOf x.c x.f x.r x.s x.d x.sends x.st x.dv).nd k = (x.s + x.d * (k : Int)) % x.c.N := sp_nd h hs k
    rw [e] at this
    exact ⟨this.1, this.2.1⟩
  · have hg : admitB x.sp.c (x.sp.st (x.sp.nd 1)) (x.sp.dv (x.sp.nd 1)) = true ∨ x.sp.st (x.sp.nd 1) = 0 := by
      have i := x.sp.nd_in ok 1
      have i1 : x.sp.nd 1 < x.c.N := i.2
      have l : (x.sp.nd 1).toNat < x.c.N.toNat := by omega
      have hdv : x.sp.dv (x.sp.nd 1) = 0 := by
        show x.dv.getD (x.sp.nd 1).toNat 0 = 0
        rw [hv, List.getD_eq_getElem?_getD, List.getElem?_replicate_of_lt l]; rfl
      have hst : x.sp.st (x.sp.nd 1) = 0 ∨ x.sp.st (x.sp.nd 1) = 4 := by
        show x.st.getD (x.sp.nd 1).toNat 0 = 0 ∨ x.st.getD (x.sp.nd 1).toNat 0 = 4
        rw [List.getD_eq_getElem?_getD]
        cases hq : x.st[(x.sp.nd 1).toNat]? with
        | none => left; rfl
        | some z => exact h04 z (List.mem_of_getElem? hq)
      rcases hst with e | e
      · exact .inr e
      · left
        rw [e, hdv]
        have p0 := h.c.p0; have e0 := h.c.e0; have g0 := h.c.g0
        show admitB x.c 4 0 = true
        unfold admitB
        have : windowI x.c = 2 * x.c.Pi := rfl
        simp
        omega
    have hK' : x.sp.f.K = 0 := hK
    have := off_next ok (Cs.sp_pair h hs) (by omega) (by omega) hA hg k
    rw [this, sp_nd h hs]
    rfl

theorem stOff_04 (bs : List Bool) (s : Int) (N k : Nat) : ∀ z ∈ stOff bs s N k, z = 0 ∨ z = 4 := by
  intro z hz
  unfold stOff at hz
  obtain ⟨i, _, rfl⟩ := List.mem_map.1 hz
  split
  · exact .inl rfl
  · exact .inr rfl

end Go.Proofs.YthjokgigjmknmaaGreatDoor

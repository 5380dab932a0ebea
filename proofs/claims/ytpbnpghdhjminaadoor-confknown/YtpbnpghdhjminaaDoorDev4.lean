/-
  Contracts of package conf, second part: a slot's voters.
-/
import Derived.Test.YtpbnpghdhjminaaDoorDev3
namespace Go.Proofs.YtpbnpghdhjminaaDoor
open Go.RowKit Plait
set_option linter.unusedVariables false

/-- The array of marks. -/
def marks (l : List Int) : Array Value := ((List.range 12).map fun i : Nat => Value.bool (l.contains (i : Int))).toArray

theorem marks_at (l : List Int) (k : Nat) (h : k < 12) : (marks l)[k]? = some (.bool (l.contains (k : Int))) := by
  simp [marks, h]

theorem marks_add (l : List Int) (z : Int) (h0 : 0 ≤ z) (h : z < 12) : (marks l).setIfInBounds z.toNat (.bool true) = marks (l ++ [z]) := by
  have hz := marks_at l
  have hs : (marks l).size = 12 := by simp [marks]
  apply Array.ext_getElem?
  intro i
  rw [Array.getElem?_setIfInBounds]
  by_cases hi : i < 12
  · rw [hz i hi, marks_at (l ++ [z]) i hi]
    by_cases e : z.toNat = i
    · have e2 : (i : Int) = z := by omega
      rw [if_pos e, if_pos (by omega)]
      simp [e2]
    · rw [if_neg e]
      have : ((i : Int) = z) = False := by simp; omega
      simp [this]
  · rw [if_neg (by omega)]
    rw [Array.getElem?_eq_none (by omega), Array.getElem?_eq_none (by simp [marks]; omega)]

/-- The loop that marks the owners. -/
def MarkAt (bx : Array Value) (zs : List Int) (ao : Option Addr) (w : World) (i : Value) (w' : World) : Prop :=
  ∃ k : Nat, k ≤ zs.length ∧ i = .int .i64 k ∧ Below w.heap.size w w' ∧ Blk w' w.heap.size 24 bx ∧ Blk w' (w.heap.size + 1) 40 (marks (zs.take k)) ∧ Row w' ao zs

/-- The loop that gathers the voters. -/
def VoteAt (bx : Array Value) (c : Cf) (s : Int) (w : World) (v i : Value) (w' : World) : Prop :=
  ∃ k : Nat, (k : Int) ≤ c.N ∧ i = .int .i64 k ∧ Below w.heap.size w w' ∧ Blk w' w.heap.size 24 bx ∧ Blk w' (w.heap.size + 1) 40 (marks (owners c s)) ∧ OwnI (w.heap.size + 2) w' v (votersTo c s k)

set_option maxHeartbeats 1600000 in
theorem cvoters_any (c : Cf) (a : Option Addr) (cap : Nat) (s : Int) (w : World) (hc : c.Ok) (hs : inI s) (hrow : Row w a c.P) :
    Calls Tryd.prog 18 #[.agg #[.int .i64 c.N, .int .i64 c.Pi, .int .i64 c.E, .int .i64 c.G, .int .i64 c.F, .slice a c.P.length cap], .int .i64 s] w (RowRet (voters c s) w) := by
  have h1 := hc.n6; have h2 := hc.n12; have h3 := hc.len
  have d0 : decide (12 < c.N) = false := by simp; omega
  go_enter Tryd.func18, Tryd.ntmps18
  go_wp2_with fail
  refine (cowners_any c a cap s _ hc hs ((hrow.alloc _).alloc _)).mono ?_
  rintro e w1 ⟨ao, co, rfl, hro, hfo, hb⟩
  have hK1 := ((Blk.new w 24 (confBox c a cap)).alloc _).later hb
  have hK2 := (Blk.new (w.alloc (.cells (confBox c a cap) 24)) 40 (marks [])).later hb
  have hB := ((alloc_below w _).alloc (by simp) _).trans (hb.mono (by simp; omega))
  have hf2 : ∀ x, ao = some x → w.heap.size + 2 ≤ x.block := fun x h => by have := hfo x h; simp at this; omega
  simp only [World.size_alloc] at hK2
  clear hb hfo
  have hin := owners_in c hc s
  have hlen := owners_len c s
  go_wp2_with fail
  go_loopw [17] (fun i w' => MarkAt (confBox c a cap) (owners c s) ao w i w') (fun i _ => (owners c s).length - (intOf i).toNat)
  case atStart => exact ⟨0, Nat.zero_le _, rfl, hB, hK1, hK2, hro⟩
  case round =>
    obtain ⟨k, hk, rfl, hB, hK1, hK2, hro⟩ := hrel
    by_cases hlt : k < (owners c s).length
    · have d1 : decide (k < (owners c s).length) = true := by simpa using hlt
      obtain ⟨b, off, rfl, hb, hcell, _, _⟩ := hro.get k hlt
      have hfb : w.heap.size + 2 ≤ b := hf2 _ rfl
      have hz := hin _ (List.getElem_mem hlt)
      have HT := Lib.hid (show (owners c s).take (k + 1) = (owners c s).take k ++ [(owners c s)[k]] from List.take_succ_eq_append_getElem hlt)
      have HA := Lib.hid (marks_add ((owners c s).take k) (owners c s)[k] hz.1 (by omega))
      have hfr := hK2.frozen
      have hm := hK2.at (owners c s)[k].toNat
      rw [marks_at _ _ (by omega)] at hm
      have HI := Lib.hid hin
      clear hin
      generalize (owners c s)[k] = z at *
      obtain ⟨hz0, hz1⟩ := hz
      have hz2 : z < 12 := by omega
      go_wp2
      go_roundw
      case rel =>
        refine ⟨k + 1, by omega, by go_num, hB.setCell (by simp) _, hK1.far (by simp) _, ?_, hro.far _ _ _ (fun x h => by injection h with h; rw [← h]; simp; omega)⟩
        have := hK2.set z.toNat (.bool true)
        rw [HA.out] at this
        rw [HT.out]
        exact this
      case measure => simp [intOf]; omega
    · have d1 : decide (k < (owners c s).length) = false := by simpa using hlt
      rw [List.take_of_length_le (by omega)] at hK2
      clear hro hf2 hrow
      have hQ := hK1.at
      unfold confBox at hQ
      go_wp2
      clear hQ
      go_loopw [8, 26] (fun v i w' => VoteAt (confBox c a cap) c s w v i w') (fun _ i _ => 12 - (intOf i).toNat)
      case atStart => exact ⟨0, by omega, rfl, hB, hK1, hK2, OwnI.nil _ _⟩
      case round =>
        clear hB hK1 hK2
        obtain ⟨k, hk, rfl, hB, hK1, hK2, hown⟩ := hrel
        by_cases hlt : (k : Int) < c.N
        · have d1 : decide ((k : Int) < c.N) = true := by simpa using hlt
          have hm := hK2.at k
          rw [marks_at _ _ (by omega)] at hm
          have hk12 : (k : Int) < 12 := by omega
          have hk0 : (0 : Int) ≤ (k : Int) := by omega
          have HS := Lib.hid (votersTo_succ c s k)
          cases hcon : (owners c s).contains (k : Int)
          · have HC := Lib.hid hcon
            rw [hcon] at hm
            clear hcon
            obtain ⟨av, cv, rfl⟩ := hown.form
            have hvl := votersTo_len c s k
            have hol := hown.lt
            have hz2 := hK2.lt
            go_wp2_with (at_builtin; refine wpList_app1 _ rfl _ _ rfl (w.heap.size + 2) (.slice av (votersTo c s k).length cv) (votersTo c s k) rfl (hown.later (alloc_below _ _)) wr.heap.size 1 (k : Int) rfl (heap_alloc_new _ _) (by omega) (by simp; omega) ?_; intro g cap' w2 h1' h2' h3' h4')
            have hG : ∀ g, (Value.slice av (votersTo c s k).length cv).ownBlock = some g → w.heap.size + 2 ≤ g := fun g hg => (hol g hg).1
            go_roundw
            case rel =>
              refine ⟨k + 1, by omega, by go_num, below_grown (hB.alloc hB.size _) (by simp; omega) h2' (fun g hg => by have := hG g hg; omega), (hK1.alloc _).grown h2' (fun e => by have := hG _ e.symm; omega), (hK2.alloc _).grown h2' (fun e => by have := hG _ e.symm; omega), ?_⟩
              rw [HS.out, if_neg (by rw [HC.out]; simp)]
              exact h1'
            case measure => simp [intOf]; omega
          · have HC := Lib.hid hcon
            rw [hcon] at hm
            clear hcon
            go_wp2
            go_roundw
            case rel => exact ⟨k + 1, by omega, by go_num, hB, hK1, hK2, by rw [HS.out, if_pos HC.out]; exact hown⟩
            case measure => simp [intOf]; omega
        · have d1 : decide ((k : Int) < c.N) = false := by simpa using hlt
          have HV := Lib.hid (show votersTo c s k = voters c s by unfold voters; congr 1; omega)
          obtain ⟨av, cv, rfl⟩ := hown.form
          rw [HV.out] at hown
          go_wp2
          go_ret
          refine ⟨av, cv, by rw [HV.out]; rfl, hown.row ?_ ?_, ?_, hB⟩
          · have := votersTo_len c s c.N.toNat
            unfold voters
            omega
          · intro z hz
            have := votersTo_in c s c.N.toNat z hz
            omega
          · intro x hx
            have := (hown.lt x.block (by rw [hx]; rfl)).1
            omega

end Go.Proofs.YtpbnpghdhjminaaDoor

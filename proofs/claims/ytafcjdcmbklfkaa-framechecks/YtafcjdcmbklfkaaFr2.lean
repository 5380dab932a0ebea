/-
  Frames as they lie in memory: rows of items, boxes of frames.
-/
import Derived.Test.YtafcjdcmbklfkaaConf2
import Derived.Test.YtafcjdcmbklfkaaFr1
import Derived.Test.YtafcjdcmbklfkaaRef5
import Derived.Test.YtafcjdcmbklfkaaDev2
namespace Go.Proofs.Ytafcjdcmbklfkaa
open Go.RowKit Plait
set_option linter.unusedVariables false

/-- A slice of items as it lies in memory. -/
def RowT (w : World) (a : Option Addr) (ts : List It) : Prop :=
  ts.length ≤ 9223372036854775807 ∧ (∀ t ∈ ts, inI t.K ∧ inI t.V) ∧
  (ts = [] ∨ ∃ b off : Nat, a = some ⟨b, off, none⟩ ∧ b < w.heap.size ∧ ∀ i (h : i < ts.length), w.cell? ⟨b, off + i * 2, none⟩ = some (.int .i64 ts[i].K) ∧ w.cell? ⟨b, off + i * 2 + 1, none⟩ = some (.int .i64 ts[i].V))

theorem RowT.later {w w1 : World} {a : Option Addr} {ts : List It} (h : RowT w a ts) (hb : Below w.heap.size w w1) : RowT w1 a ts := by
  obtain ⟨h1, h2, h3⟩ := h
  refine ⟨h1, h2, ?_⟩
  rcases h3 with h3 | ⟨b, off, e, hlt, hc⟩
  · exact .inl h3
  · exact .inr ⟨b, off, e, Nat.lt_of_lt_of_le hlt hb.size, fun i hi => ⟨by rw [hb.cell (p := ⟨b, off + i * 2, none⟩) hlt]; exact (hc i hi).1, by rw [hb.cell (p := ⟨b, off + i * 2 + 1, none⟩) hlt]; exact (hc i hi).2⟩⟩
theorem RowT.empty (w : World) (a : Option Addr) : RowT w a [] := ⟨by simp, by simp, .inl rfl⟩
theorem RowT.drew1 {w : World} {a : Option Addr} {ts : List It} (h : RowT w a ts) : RowT w.drew a ts := h.later (Below.refl _ _).drew
theorem RowT.drewN {w : World} {a : Option Addr} {ts : List It} (h : RowT w a ts) (n : Nat) : RowT (w.drewN n) a ts := h.later (below_drewN (Below.refl _ _) n)
theorem RowT.alloc {w : World} {a : Option Addr} {ts : List It} (h : RowT w a ts) (o : Obj) : RowT (w.alloc o) a ts := h.later ((Below.refl _ _).alloc (Nat.le_refl _) _)
theorem RowT.get {w : World} {a : Option Addr} {ts : List It} (h : RowT w a ts) (k : Nat) (hk : k < ts.length) :
    ∃ b off : Nat, a = some ⟨b, off, none⟩ ∧ b < w.heap.size ∧ w.cell? ⟨b, off + k * 2, none⟩ = some (.int .i64 ts[k].K) ∧ w.cell? ⟨b, off + k * 2 + 1, none⟩ = some (.int .i64 ts[k].V) ∧ inI ts[k].K ∧ inI ts[k].V := by
  obtain ⟨_, h2, h3⟩ := h
  rcases h3 with h3 | ⟨b, off, e, hlt, hc⟩
  · rw [h3] at hk; simp at hk
  · exact ⟨b, off, e, hlt, (hc k hk).1, (hc k hk).2, (h2 _ (List.getElem_mem hk)).1, (h2 _ (List.getElem_mem hk)).2⟩

/-- The cells of a frame's box. -/
def frBox (f : Fr) (a : Option Addr) (cap : Nat) : Array Value := #[.int .i64 f.K, .int .i64 f.R, .int .i64 f.S, .int .i64 f.P.K, .int .i64 f.P.V, .slice a f.E.length cap]

theorem ret_str5 {a b : List UInt8} (h : a = b) : Ending.returned (.string ⟨a.toArray⟩) = .returned (.string ⟨b.toArray⟩) := by rw [h]

/-- A call in a quiet region, by a contract that leaves the world. -/
theorem quiet_same5 {P : Program} {f : FuncId} {args : Array Value} {w : World} {n : Nat} {v : Value} (h : Calls P f args (w.drewN n) fun e w' => e = .returned v ∧ w.drewN n = w') : Calls P f args (w.drewN n) fun e w'' => e = .returned v ∧ ∃ m, w'' = w.drewN m :=
  h.mono fun _ _ ⟨he, hm⟩ => ⟨he, n, hm.symm⟩

theorem ritem_any (i : It) (b : Bool) (w : World) :
    Calls Try.prog 41 #[.agg #[.int .i64 i.K, .int .i64 i.V], .bool b] w fun e w' => e = .returned (.bool (itemB i b)) ∧ Below w.heap.size w w' := by
  by_cases k0 : i.K = 0
  · have HF := Lib.hid (show itemB i b = (i.V == 0 && !b) by unfold itemB; rw [if_pos k0])
    have c0 : (i.K == 0) = true := by simpa using k0
    clear k0
    cases hv : (i.V == 0)
    · rw [hv] at HF
      go_enter Try.func41, Try.ntmps41
      go_wp2
      go_ret
      exact ⟨ret_bool (by rw [HF.out]; rfl), alloc_below _ _⟩
    · rw [hv] at HF
      go_enter Try.func41, Try.ntmps41
      go_wp2
      go_ret
      exact ⟨ret_bool (by rw [HF.out]; simp), alloc_below _ _⟩
  · have c0 : (i.K == 0) = false := by simpa using k0
    by_cases k1 : i.K = 1
    · have HF := Lib.hid (show itemB i b = (i.V == 0) by unfold itemB; rw [if_neg k0, if_pos k1])
      have c1 : (i.K == 1) = true := by simpa using k1
      clear k0 k1
      go_enter Try.func41, Try.ntmps41
      go_wp2
      go_ret
      exact ⟨ret_bool HF.out.symm, alloc_below _ _⟩
    · have c1 : (i.K == 1) = false := by simpa using k1
      by_cases k2 : i.K = 2
      · have HF := Lib.hid (show itemB i b = (decide (0 ≤ i.V) && decide (i.V ≤ 255)) by unfold itemB; rw [if_neg k0, if_neg k1, if_pos k2])
        have c2 : (i.K == 2) = true := by simpa using k2
        clear k0 k1 k2
        cases hv : decide (0 ≤ i.V)
        · rw [hv] at HF
          go_enter Try.func41, Try.ntmps41
          go_wp2
          go_ret
          exact ⟨ret_bool (by rw [HF.out]; rfl), alloc_below _ _⟩
        · rw [hv] at HF
          go_enter Try.func41, Try.ntmps41
          go_wp2
          go_ret
          exact ⟨ret_bool (by rw [HF.out]; simp), alloc_below _ _⟩
      · have HF := Lib.hid (show itemB i b = false by unfold itemB; rw [if_neg k0, if_neg k1, if_neg k2])
        have c2 : (i.K == 2) = false := by simpa using k2
        clear k0 k1 k2
        go_enter Try.func41, Try.ntmps41
        go_wp2
        go_ret
        exact ⟨ret_bool HF.out.symm, alloc_below _ _⟩

theorem rechoes_any (c : Cf) (a : Option Addr) (cap : Nat) (k s : Int) (w : World) (hc : c.Ok) :
    Calls Try.prog 42 #[.agg #[.int .i64 c.N, .int .i64 c.Pi, .int .i64 c.E, .int .i64 c.G, .int .i64 c.F, .slice a c.P.length cap], .int .i64 k, .int .i64 s] w fun e w' => e = .returned (.int .i64 (echoI c k s)) ∧ Below w.heap.size w w' := by
  by_cases h3 : k = 3
  · have c3 : (k == 3) = true := by simpa using h3
    by_cases hs : s < c.N
    · have HF := Lib.hid (show echoI c k s = slotsI c by unfold echoI; rw [if_pos ⟨h3, hs⟩])
      have d1 : decide (s < c.N) = true := by simpa using hs
      clear h3
      go_enter Try.func42, Try.ntmps42
      go_wp2_with fail
      refine (rslots_any c a cap _ hc).mono ?_
      rintro e wn ⟨rfl, hb⟩
      obtain ⟨hB, hK, hZ⟩ := boxed hb
      have hQ := hK.at
      clear hb
      go_wp2
      go_ret
      exact ⟨ret_int HF.out.symm, hB⟩
    · have HF := Lib.hid (show echoI c k s = 0 by unfold echoI; rw [if_neg (by simp [hs])])
      have d1 : decide (s < c.N) = false := by simpa using hs
      clear h3
      go_enter Try.func42, Try.ntmps42
      go_wp2
      go_ret
      exact ⟨ret_int HF.out.symm, alloc_below _ _⟩
  · have HF := Lib.hid (show echoI c k s = 0 by unfold echoI; rw [if_neg (by simp [h3])])
    have c3 : (k == 3) = false := by simpa using h3
    clear h3
    go_enter Try.func42, Try.ntmps42
    go_wp2
    go_ret
    exact ⟨ret_int HF.out.symm, alloc_below _ _⟩

theorem bitsI_of (x : Int) (k : Nat) (h1 : 1 ≤ k) (h2 : k ≤ 62) : bitsI x (k : Int) = bitsL x k := by unfold bitsI; rw [if_pos (by omega)]; rfl

theorem bitsI_len (x s : Int) : (bitsI x s).length ≤ 62 := by
  unfold bitsI
  split
  · rw [bitsL_length]; omega
  · simp

set_option maxHeartbeats 1600000 in
theorem rbits5_any (i : It) (w : World) :
    Calls Try.prog 52 #[.agg #[.int .i64 i.K, .int .i64 i.V]] w fun e w' => e = .returned (.string ⟨(itBits i).toArray⟩) ∧ Below w.heap.size w w' := by
  have HF := Lib.hid (show bitsI i.K 2 ++ bitsI i.V 8 = itBits i by rw [show bitsI i.K 2 = bitsL i.K 2 from bitsI_of i.K 2 (by omega) (by omega), show bitsI i.V 8 = bitsL i.V 8 from bitsI_of i.V 8 (by omega) (by omega)]; rfl)
  have h2 := bitsI_len i.K 2
  have h8 := bitsI_len i.V 8
  have hrun := fun W : World => add_run (bitsI i.K 2) (bitsI i.V 8) (by omega) (by omega) W
  go_enter Try.func52, Try.ntmps52
  go_wp2_with fail
  go_quiet (first | (go_at_call 29; refine quiet_same5 (rbits_any _ _ _)))
  go_wp2
  go_ret
  exact ⟨ret_str5 HF.out, below_drewN (alloc_below _ _) _⟩

end Go.Proofs.Ytafcjdcmbklfkaa

/-
  Contracts of package crc: Sum of texts of bits, Wrap of them, Open of every text; nothing that was in memory is changed.
-/
import Derived.Test.YtkflijbhlibadabDoorK2
import Derived.Test.YtkflijbhlibadabDoorK1
import Derived.Test.YtkflijbhlibadabDoorRows
import Derived.ProofKit
import Derived.OpenShut
import Derived.ShutString
import Derived.ChangeOld
import Derived.Lib.SmallJoins
namespace Go.Proofs.YtkflijbhlibadabDoor
open Go.RowKit Plait
set_option maxRecDepth 100000
set_option linter.unusedVariables false

theorem reg_top (R : BitVec 16) : (R.toNat : Int) / 32768 = if R.msb then 1 else 0 := by
  have h := reg_out R
  have hl := R.isLt
  simp only [Nat.reducePow] at hl
  cases hm : R.msb
  · rw [hm] at h; simp at h ⊢; omega
  · rw [hm] at h; simp at h ⊢; omega

theorem reg_up16 (R : BitVec 16) : IntKind.u16.wrap ((R.toNat : Int) * 2) = ((R <<< 1).toNat : Int) := by
  have hd : ∀ x : Int, IntKind.u16.wrap x = x % 65536 := fun x => by simp [IntKind.wrap, IntKind.signed, IntKind.bits]
  rw [hd, BitVec.toNat_shiftLeft, Nat.shiftLeft_eq]
  simp only [Nat.reducePow]
  omega

theorem reg_laid16 (X : BitVec 16) : bits .xor .u16 (X.toNat : Int) 4129 = ((X ^^^ 0x1021#16).toNat : Int) := by
  have h := X.isLt
  have hdef : bits .xor .u16 (X.toNat : Int) 4129 = IntKind.u16.wrap ((BitVec.ofInt 16 (X.toNat : Int) ^^^ BitVec.ofInt 16 4129).toNat : Int) := rfl
  have hd : ∀ x : Int, IntKind.u16.wrap x = x % 65536 := fun x => by simp [IntKind.wrap, IntKind.signed, IntKind.bits]
  have e : (BitVec.ofInt 16 (X.toNat : Int)).toNat = X.toNat := by
    rw [BitVec.toNat_ofInt]
    simp only [Nat.reducePow] at *
    omega
  have hx : X.toNat ^^^ 4129 < 2 ^ 16 := Nat.xor_lt_two_pow h (by decide)
  rw [hdef, BitVec.toNat_xor, BitVec.toNat_xor, e, hd, show (BitVec.ofInt 16 4129).toNat = 4129 by decide, show (0x1021#16).toNat = 4129 by decide]
  simp only [Nat.reducePow] at hx
  omega

set_option maxHeartbeats 800000 in
theorem step_any (R : BitVec 16) (c : UInt8) (w : World) (hc : bitB c = true) :
    Calls Tryd.prog 84 #[.int .u16 R.toNat, .int .i32 c.toNat] w fun e w' => e = .returned (.int .u16 (stepB R (c == 49)).toNat) ∧ w = w' := by
  have hbit := (bit_toNat _).1 hc
  have hx := R.isLt
  have h1 := reg_top R
  have h2 := reg_up16 R
  have h3 := reg_laid16 (R <<< 1)
  have HN := Lib.hid (show (stepB R (c == 49)).toNat = if R.msb != (c == 49) then ((R <<< 1) ^^^ 0x1021#16).toNat else (R <<< 1).toNat by rw [step_if]; split <;> rfl)
  have h4 : (c.toNat : Int) = 48 + if (c == 49) then 1 else 0 := by
    rcases hbit with h | h
    · rw [show (c == 49) = false by rw [beq_eq_false_iff_ne]; intro e; rw [e] at h; exact absurd h (by decide), h]; rfl
    · rw [show (c == 49) = true by rw [beq_iff_eq]; exact UInt8.toNat_inj.1 h, h]; rfl
  rw [h4]
  generalize (stepB R (c == 49)).toNat = q at *
  generalize ((R <<< 1) ^^^ 0x1021#16).toNat = z at *
  generalize (R <<< 1).toNat = y at *
  generalize R.toNat = x at *
  generalize R.msb = o at *
  generalize (c == 49) = b at *
  have hx' : x ≤ 65535 := by simp only [Nat.reducePow] at hx; omega
  clear hx hbit h4 hc
  cases o <;> cases b
  all_goals
    simp only [Bool.false_eq_true, if_true, if_false, bne_self_eq_false, Bool.bne_true, Bool.bne_false, Bool.not_false] at HN h1 ⊢
    go_enter Tryd.func84, Tryd.ntmps84
    go_wp2
    go_ret
    exact ⟨ret_int (by rw [HN.out]), rfl⟩

/-- The loop of Sum. -/
def SumAt (l : List UInt8) (w : World) (r : Value) (w' : World) : Prop :=
  ∃ k : Nat, k ≤ l.length ∧ w' = w.iter ⟨l.toArray⟩ k ∧ r = .int .u16 ((sumB (l.take k)).toNat : Int)

set_option maxHeartbeats 800000 in
theorem csum_any (l : List UInt8) (w : World) (hs : l.length ≤ 1048576) (hall : allBits l) :
    Calls Tryd.prog 78 #[.string ⟨l.toArray⟩] w fun e w' => e = .returned (.int .i64 (sumI l)) ∧ Below w.heap.size w w' := by
  have HA := Lib.hid hall
  clear hall
  go_enter Tryd.func78, Tryd.ntmps78
  go_wp2
  go_loopw [3] (fun r w' => SumAt l w r w') (fun _ w' => l.length - w'.iterPos w.heap.size)
  case atStart => exact ⟨0, Nat.zero_le _, rfl, by simp [sumB, vals, feed]⟩
  case round =>
    obtain ⟨k, hk, rfl, rfl⟩ := hrel
    by_cases hlt : k < l.length
    · have hB := HA.out l[k] (List.getElem_mem hlt)
      have hbit := (bit_toNat _).1 hB
      have hnx := next_ascii l w k hlt (by omega)
      have HT := Lib.hid (sum_take l k hlt)
      clear hbit
      generalize sumB (l.take k) = R at *
      go_wp2_with fail
      refine (step_any R l[k] _ hB).mono ?_
      rintro e wl ⟨rfl, rfl⟩
      rw [← HT.out]
      go_wp2
      go_roundw
      case rel => exact ⟨k + 1, by omega, rfl, rfl⟩
      case measure => simp; omega
    · have hnx := next_end l w k hlt
      rw [show l.take k = l from List.take_of_length_le (by omega)]
      have HS := Lib.hid (show ((sumB l).toNat : Int) = sumI l from rfl)
      have hx := (sumB l).isLt
      generalize (sumB l).toNat = x at *
      have hx' : x ≤ 65535 := by simp only [Nat.reducePow] at hx; omega
      clear hx
      go_wp2
      go_ret
      exact ⟨ret_int HS.out, below_iter _ _ _⟩

theorem csumBits_any (l : List UInt8) (w : World) (hs : l.length ≤ 1048576) (hall : allBits l) :
    Calls Tryd.prog 59 #[.string ⟨l.toArray⟩] w fun e w' => e = .returned (.string ⟨(bitsL (sumI l) 16).toArray⟩) ∧ Below w.heap.size w w' := by
  have hb : bitsI (sumI l) 16 = bitsL (sumI l) 16 := by unfold bitsI; rw [if_pos (by omega)]; rfl
  have HB := Lib.hid hb
  clear hb
  go_enter Tryd.func59, Tryd.ntmps59
  go_wp2_with fail
  refine (csum_any l _ (by omega) hall).mono ?_
  rintro e w1 ⟨rfl, hb1⟩
  go_wp2_with fail
  refine (bits_any _ _ _).mono ?_
  rintro e w2 ⟨rfl, hb2⟩
  rw [HB.out]
  go_wp2
  go_ret
  exact ⟨rfl, hb1.trans (hb2.mono hb1.size)⟩

/-- The last 17 bytes of a whole text are the sum and the tail just where the 16 ahead of the tail are the sum. -/
theorem open_cmp (l : List UInt8) (n : Nat) (hw : wholeB l = true) (hn : l.length = n + 17) (B : List UInt8) (hB : B.length = 16) :
    ((l.drop n).take 17 == B ++ [35]) = ((l.drop n).take 16 == B) := by
  have hlast : l[n + 16]'(by omega) = 35 := by
    unfold wholeB at hw
    simp only [Bool.and_eq_true, beq_iff_eq] at hw
    have h := hw.1
    rw [List.getLast?_eq_getElem?, hn, List.getElem?_eq_getElem (by omega)] at h
    simpa using h
  have e : (l.drop n).take 17 = (l.drop n).take 16 ++ [35] := by
    rw [List.take_succ_eq_append_getElem (i := 16) (by simp; omega), List.getElem_drop, hlast]
  rw [e, Bool.eq_iff_iff, beq_iff_eq, beq_iff_eq]
  exact ⟨fun h => List.append_cancel_right h, fun h => by rw [h]⟩

theorem add_run (x y : List UInt8) (hx : x.length ≤ 1000) (hy : y.length ≤ 1000) : ∀ W : World, (Op.stringOp .add ⟨x.toArray⟩ ⟨y.toArray⟩).run Tryd.prog W = .ok (.string ⟨(x ++ y).toArray⟩) W := fun W => by
  rw [run_string_add_sum W _ _ (by rw [size_mk, size_mk]; omega), app_mk]

set_option maxHeartbeats 1600000 in
theorem copen_any (l : List UInt8) (w : World) (hs : l.length ≤ 1048576) :
    Calls Tryd.prog 43 #[.string ⟨l.toArray⟩] w fun e w' => e = .returned (openR l) ∧ Below w.heap.size w w' := by
  have hB : Below w.heap.size w w := Below.refl _ _
  by_cases hw : wholeB l = true
  · by_cases h17 : l.length < 17
    · have HF := Lib.hid (openR_cut l hw h17)
      have d : decide ((l.length : Int) - 1 - 16 < 0) = true := by simp; omega
      go_enter Tryd.func43, Tryd.ntmps43
      go_wp2_with fail
      refine (whole_any l _ (by omega)).mono ?_
      rintro e wn ⟨rfl, hb⟩
      replace hB := hB.trans (hb.mono hB.size)
      clear hb
      rw [hw]
      clear hw
      go_wp2
      go_ret2
      exact ⟨congrArg Ending.returned HF.out.symm, hB⟩
    · obtain ⟨n, hn⟩ : ∃ n, l.length = n + 17 := ⟨l.length - 17, by omega⟩
      have r0 : (l.length : Int) - 1 - 16 = (n : Int) := by omega
      have r3 : l.length - n = 17 := by omega
      have b1 : n ≤ l.length := by omega
      have g1 : (0 : Int) ≤ (n : Int) := by omega
      have g4 : (n : Int) ≤ (l.length : Int) := by omega
      have d : decide ((n : Int) < 0) = false := by simp
      have ht : (l.take n).length ≤ 1048576 := by rw [List.length_take]; omega
      have HN := Lib.hid hn
      have HA := Lib.hid (whole_take l n hw (by omega))
      have hc := open_cmp l n hw hn (bitsL (sumI (l.take n)) 16) (bitsL_length _ _)
      have hlB : (bitsL (sumI (l.take n)) 16).length ≤ 16 := by rw [bitsL_length]; omega
      have HS := Lib.hid (openR_sum l n hw hn)
      have HO := Lib.hid (openR_ok l n hw hn)
      have HR := Lib.hid (csumBits_any (l.take n))
      generalize bitsL (sumI (l.take n)) 16 = B at *
      have ad := add_run B [35] (by omega) (by simp)
      cases h3 : ((l.drop n).take 16 == B)
      · have HF := Lib.hid (HS.out h3)
        rw [h3] at hc
        clear hn HS HO h3
        go_enter Tryd.func43, Tryd.ntmps43
        go_wp2_with fail
        refine (whole_any l _ (by omega)).mono ?_
        rintro e wn ⟨rfl, hb⟩
        replace hB := hB.trans (hb.mono hB.size)
        clear hb
        rw [hw]
        clear hw
        go_wp2_with fail
        go_region_held3 (fun W => Below w.heap.size w W) (first | exact hB.drew | assumption | exact Below.trans ‹_› (hbm.mono (Below.size ‹_›)))
          (first
          | (go_at_call 59; refine (HR.out _ ?_ HA.out).mono ?_; omega; rintro e wm ⟨rfl, hbm⟩))
        go_wp2
        go_ret2
        exact ⟨congrArg Ending.returned HF.out.symm, by assumption⟩
      · have HF := Lib.hid (HO.out h3)
        rw [h3] at hc
        clear hn HS HO h3
        go_enter Tryd.func43, Tryd.ntmps43
        go_wp2_with fail
        refine (whole_any l _ (by omega)).mono ?_
        rintro e wn ⟨rfl, hb⟩
        replace hB := hB.trans (hb.mono hB.size)
        clear hb
        rw [hw]
        clear hw
        go_wp2_with fail
        go_region_held3 (fun W => Below w.heap.size w W) (first | exact hB.drew | assumption | exact Below.trans ‹_› (hbm.mono (Below.size ‹_›)))
          (first
          | (go_at_call 59; refine (HR.out _ ?_ HA.out).mono ?_; omega; rintro e wm ⟨rfl, hbm⟩))
        go_wp2_with fail
        refine (clone_any _ _ (by rw [size_mk]; omega)).mono ?_
        rintro e wq ⟨rfl, hbq⟩
        go_wp2
        go_ret2
        exact ⟨congrArg Ending.returned HF.out.symm, Below.trans ‹_› (hbq.mono (Below.size ‹_›))⟩
  · have hw' : wholeB l = false := by simpa using hw
    have HF := Lib.hid (openR_tail l hw')
    go_enter Tryd.func43, Tryd.ntmps43
    go_wp2_with fail
    refine (whole_any l _ (by omega)).mono ?_
    rintro e wn ⟨rfl, hb⟩
    replace hB := hB.trans (hb.mono hB.size)
    clear hb
    rw [hw']
    clear hw hw'
    go_wp2
    go_ret2
    exact ⟨congrArg Ending.returned HF.out.symm, hB⟩

end Go.Proofs.YtkflijbhlibadabDoor
/-
  Frames as they lie in memory: rows of items, boxes of frames.
-/
namespace Go.Proofs.YtkflijbhlibadabDoor
open Go.RowKit Plait
set_option maxRecDepth 100000
set_option linter.unusedVariables false

/-- A slice of items as it lies in memory. -/
def RowT (w : World) (a : Option Addr) (ts : List It) : Prop :=
  ts.length ≤ 9223372036854775807 ∧ (∀ t ∈ ts, inI t.K ∧ inI t.V) ∧
  (ts = [] ∨ ∃ b off : Nat, a = some ⟨b, off, none⟩ ∧ b < w.heap.size ∧ ∀ i (h : i < ts.length), w.cell? ⟨b, off + i * 2, none⟩ = some (.int .i64 ts[i].K) ∧ w.cell? ⟨b, off + i * 2 + 1, none⟩ = some (.int .i64 ts[i].V))

theorem RowT.later {w w1 : World} {a : Option Addr} {ts : List It} (h : RowT w a ts) (hb : Below w.heap.size w w1) : RowT w1 a ts := by
  obtain ⟨h1, h2, h3⟩ := h
  refine ⟨h1, h2, ?_⟩
  rcases h3 with h3 | ⟨b, off, e, hlt, hc⟩
  · exact .inl h3
  · exact .inr ⟨b, off, e, Nat.lt_of_lt_of_le hlt hb.size, fun i hi => ⟨by rw [hb.cell (p := ⟨b, off + i * 2, none⟩) hlt]; exact (hc i hi).1, by rw [hb.cell (p := ⟨b, off + i * 2 + 1, none⟩) hlt]; exact (hc i hi).2⟩⟩
theorem RowT.empty (w : World) (a : Option Addr) : RowT w a [] := ⟨by simp, by simp, .inl rfl⟩
theorem RowT.drew1 {w : World} {a : Option Addr} {ts : List It} (h : RowT w a ts) : RowT w.drew a ts := h.later (Below.refl _ _).drew
theorem RowT.drewN {w : World} {a : Option Addr} {ts : List It} (h : RowT w a ts) (n : Nat) : RowT (w.drewN n) a ts := h.later (below_drewN (Below.refl _ _) n)
theorem RowT.alloc {w : World} {a : Option Addr} {ts : List It} (h : RowT w a ts) (o : Obj) : RowT (w.alloc o) a ts := h.later ((Below.refl _ _).alloc (Nat.le_refl _) _)
theorem RowT.get {w : World} {a : Option Addr} {ts : List It} (h : RowT w a ts) (k : Nat) (hk : k < ts.length) :
    ∃ b off : Nat, a = some ⟨b, off, none⟩ ∧ b < w.heap.size ∧ w.cell? ⟨b, off + k * 2, none⟩ = some (.int .i64 ts[k].K) ∧ w.cell? ⟨b, off + k * 2 + 1, none⟩ = some (.int .i64 ts[k].V) ∧ inI ts[k].K ∧ inI ts[k].V := by
  obtain ⟨_, h2, h3⟩ := h
  rcases h3 with h3 | ⟨b, off, e, hlt, hc⟩
  · rw [h3] at hk; simp at hk
  · exact ⟨b, off, e, hlt, (hc k hk).1, (hc k hk).2, (h2 _ (List.getElem_mem hk)).1, (h2 _ (List.getElem_mem hk)).2⟩

/-- The cells of a frame's box. -/
def frBox (f : Fr) (a : Option Addr) (cap : Nat) : Array Value := #[.int .i64 f.K, .int .i64 f.R, .int .i64 f.S, .int .i64 f.P.K, .int .i64 f.P.V, .slice a f.E.length cap]

theorem ret_str5 {a b : List UInt8} (h : a = b) : Ending.returned (.string ⟨a.toArray⟩) = .returned (.string ⟨b.toArray⟩) := by rw [h]

/-- A call in a quiet region, by a contract that leaves the world. -/
theorem quiet_same5 {P : Program} {f : FuncId} {args : Array Value} {w : World} {n : Nat} {v : Value} (h : Calls P f args (w.drewN n) fun e w' => e = .returned v ∧ w.drewN n = w') : Calls P f args (w.drewN n) fun e w'' => e = .returned v ∧ ∃ m, w'' = w.drewN m :=
  h.mono fun _ _ ⟨he, hm⟩ => ⟨he, n, hm.symm⟩

theorem ritem_any (i : It) (b : Bool) (w : World) :
    Calls Tryd.prog 74 #[.agg #[.int .i64 i.K, .int .i64 i.V], .bool b] w fun e w' => e = .returned (.bool (itemB i b)) ∧ Below w.heap.size w w' := by
  by_cases k0 : i.K = 0
  · have HF := Lib.hid (show itemB i b = (i.V == 0 && !b) by unfold itemB; rw [if_pos k0])
    have c0 : (i.K == 0) = true := by simpa using k0
    clear k0
    cases hv : (i.V == 0)
    · rw [hv] at HF
      go_enter Tryd.func74, Tryd.ntmps74
      go_wp2
      go_ret
      exact ⟨ret_bool (by rw [HF.out]; rfl), alloc_below _ _⟩
    · rw [hv] at HF
      go_enter Tryd.func74, Tryd.ntmps74
      go_wp2
      go_ret
      exact ⟨ret_bool (by rw [HF.out]; simp), alloc_below _ _⟩
  · have c0 : (i.K == 0) = false := by simpa using k0
    by_cases k1 : i.K = 1
    · have HF := Lib.hid (show itemB i b = (i.V == 0) by unfold itemB; rw [if_neg k0, if_pos k1])
      have c1 : (i.K == 1) = true := by simpa using k1
      clear k0 k1
      go_enter Tryd.func74, Tryd.ntmps74
      go_wp2
      go_ret
      exact ⟨ret_bool HF.out.symm, alloc_below _ _⟩
    · have c1 : (i.K == 1) = false := by simpa using k1
      by_cases k2 : i.K = 2
      · have HF := Lib.hid (show itemB i b = (decide (0 ≤ i.V) && decide (i.V ≤ 255)) by unfold itemB; rw [if_neg k0, if_neg k1, if_pos k2])
        have c2 : (i.K == 2) = true := by simpa using k2
        clear k0 k1 k2
        cases hv : decide (0 ≤ i.V)
        · rw [hv] at HF
          go_enter Tryd.func74, Tryd.ntmps74
          go_wp2
          go_ret
          exact ⟨ret_bool (by rw [HF.out]; rfl), alloc_below _ _⟩
        · rw [hv] at HF
          go_enter Tryd.func74, Tryd.ntmps74
          go_wp2
          go_ret
          exact ⟨ret_bool (by rw [HF.out]; simp), alloc_below _ _⟩
      · have HF := Lib.hid (show itemB i b = false by unfold itemB; rw [if_neg k0, if_neg k1, if_neg k2])
        have c2 : (i.K == 2) = false := by simpa using k2
        clear k0 k1 k2
        go_enter Tryd.func74, Tryd.ntmps74
        go_wp2
        go_ret
        exact ⟨ret_bool HF.out.symm, alloc_below _ _⟩

theorem rechoes_any (c : Cf) (a : Option Addr) (cap : Nat) (k s : Int) (w : World) (hc : c.Ok) :
    Calls Tryd.prog 51 #[.agg #[.int .i64 c.N, .int .i64 c.Pi, .int .i64 c.E, .int .i64 c.G, .int .i64 c.F, .slice a c.P.length cap], .int .i64 k, .int .i64 s] w fun e w' => e = .returned (.int .i64 (echoI c k s)) ∧ Below w.heap.size w w' := by
  by_cases h3 : k = 3
  · have c3 : (k == 3) = true := by simpa using h3
    by_cases hs : s < c.N
    · have HF := Lib.hid (show echoI c k s = slotsI c by unfold echoI; rw [if_pos ⟨h3, hs⟩])
      have d1 : decide (s < c.N) = true := by simpa using hs
      clear h3
      go_enter Tryd.func51, Tryd.ntmps51
      go_wp2_with fail
      refine (rslots_any c a cap _ hc).mono ?_
      rintro e wn ⟨rfl, hb⟩
      obtain ⟨hB, hK, hZ⟩ := boxed hb
      have hQ := hK.at
      clear hb
      go_wp2
      go_ret
      exact ⟨ret_int HF.out.symm, hB⟩
    · have HF := Lib.hid (show echoI c k s = 0 by unfold echoI; rw [if_neg (by simp [hs])])
      have d1 : decide (s < c.N) = false := by simpa using hs
      clear h3
      go_enter Tryd.func51, Tryd.ntmps51
      go_wp2
      go_ret
      exact ⟨ret_int HF.out.symm, alloc_below _ _⟩
  · have HF := Lib.hid (show echoI c k s = 0 by unfold echoI; rw [if_neg (by simp [h3])])
    have c3 : (k == 3) = false := by simpa using h3
    clear h3
    go_enter Tryd.func51, Tryd.ntmps51
    go_wp2
    go_ret
    exact ⟨ret_int HF.out.symm, alloc_below _ _⟩

theorem bitsI_of (x : Int) (k : Nat) (h1 : 1 ≤ k) (h2 : k ≤ 62) : bitsI x (k : Int) = bitsL x k := by unfold bitsI; rw [if_pos (by omega)]; rfl

theorem bitsI_len (x s : Int) : (bitsI x s).length ≤ 62 := by
  unfold bitsI
  split
  · rw [bitsL_length]; omega
  · simp

set_option maxHeartbeats 1600000 in
theorem rbits5_any (i : It) (w : World) :
    Calls Tryd.prog 28 #[.agg #[.int .i64 i.K, .int .i64 i.V]] w fun e w' => e = .returned (.string ⟨(itBits i).toArray⟩) ∧ Below w.heap.size w w' := by
  have HF := Lib.hid (show bitsI i.K 2 ++ bitsI i.V 8 = itBits i by rw [show bitsI i.K 2 = bitsL i.K 2 from bitsI_of i.K 2 (by omega) (by omega), show bitsI i.V 8 = bitsL i.V 8 from bitsI_of i.V 8 (by omega) (by omega)]; rfl)
  have h2 := bitsI_len i.K 2
  have h8 := bitsI_len i.V 8
  have hrun := fun W : World => add_run (bitsI i.K 2) (bitsI i.V 8) (by omega) (by omega) W
  go_enter Tryd.func28, Tryd.ntmps28
  go_wp2_with fail
  go_quiet (first | (go_at_call 27; refine quiet_same5 (rbits_any _ _ _)))
  go_wp2
  go_ret
  exact ⟨ret_str5 HF.out, below_drewN (alloc_below _ _) _⟩

end Go.Proofs.YtkflijbhlibadabDoor
/-
  What the frames of the laws over networks and frames use: networks, frames, rows and texts as the walks are told of them.
-/
namespace Go.Proofs.YtkflijbhlibadabDoor
open Go.ChangeShapes Go.WideShapes Go.ChangeAt Go.RowKit Go.Joins Go.Deep Plait
set_option maxRecDepth 100000
set_option linter.unusedVariables false

theorem own : ownKnob Tryd.prog.godebug = none := by kernel_rfl
theorem laidOut : laidOutB Tryd.prog = true := by kernel_rfl

theorem wf_lo {x : Int} (h : (Lit.int .i64 x).wf = true) : -9223372036854775808 ≤ x := (bounds_i64 h).1
theorem wf_hi {x : Int} (h : (Lit.int .i64 x).wf = true) : x ≤ 9223372036854775807 := (bounds_i64 h).2

theorem row_of {w : World} {x : Addr} {len cap : Nat} {zs : List Int} (hl : len ≤ cap) (hm : cap ≤ maxLen) (hz : len ≤ zs.length)
    (hcell : ∀ i, i < zs.length → w.cell? (x.add i) = some (.int .i64 (zs.getD i 0))) (hwz : ∀ n ∈ zs, (Lit.int .i64 n).wf = true) :
    ∃ ys : List Int, len = ys.length ∧ Row w (some x) ys := by
  have hlen : (zs.take len).length = len := by rw [List.length_take]; omega
  refine ⟨zs.take len, hlen.symm, by rw [hlen]; unfold maxLen at hm; omega, fun z hz' => bounds_i64 (hwz z (List.mem_of_mem_take hz')), ?_⟩
  by_cases h0 : len = 0
  · left
    rw [h0]
    rfl
  · right
    obtain ⟨b, off, spot⟩ := x
    have hc := hcell 0 (by omega)
    have hspot : spot = none := by simpa [Addr.add] using World.cell?_spot hc
    subst hspot
    rw [addr_at] at hc
    refine ⟨b, off, rfl, World.block_lt_of_cell? _ _ hc, fun i hi => ?_⟩
    have hi' : i < zs.length := by rw [hlen] at hi; omega
    have := hcell i hi'
    rw [addr_at] at this
    rw [this, List.getElem_take, List.getD_eq_getElem?_getD, List.getElem?_eq_getElem hi']
    rfl

/-- A network that came in. -/
theorem open_conf {H : Type} {enc : TypeId × Value → H} {W : World} {base b0 : Nat} {spare : Nat → Bool} {held : Bool} {r : Reach} {v : Value} {d : DataW H} {p : List MemPlace}
    (hv : Value.okWide Tryd.prog W r b0 24 v) (h : DataW.Trod enc Tryd.prog W base spare held 24 v d p) :
    ∃ (c : Cf) (a : Option Addr) (cap : Nat), v = .agg #[.int .i64 c.N, .int .i64 c.Pi, .int .i64 c.E, .int .i64 c.G, .int .i64 c.F, .slice a c.P.length cap] ∧ Row W a c.P ∧ inI c.N ∧ inI c.Pi ∧ inI c.E ∧ inI c.G ∧ inI c.F := by
  obtain ⟨cs, rfl, hsz⟩ := okWide_struct Tryd.underlying24 hv
  obtain ⟨l⟩ := cs
  have hC : Tryd.prog.cellsOf 24 = 6 := by kernel_rfl
  match l, hsz.trans hC with
  | [c0, c1, c2, c3, c4, c5], _ =>
    obtain ⟨fuel, hf⟩ := h
    obtain ⟨xs, n, _, hx, _, hlen, hg⟩ := DataW.trod_struct Tryd.underlying24 hf
    have k3 : Tryd.prog.cellsOf 3 = 1 := by kernel_rfl
    have k22 : Tryd.prog.cellsOf 22 = 1 := by kernel_rfl
    match xs, hlen with
    | [y0, y1, y2, y3, y4, y5], _ =>
      have t0 := hg 0 _ rfl
      have t1 := hg 1 _ rfl
      have t2 := hg 2 _ rfl
      have t3 := hg 3 _ rfl
      have t4 := hg 4 _ rfl
      have t5 := hg 5 _ rfl
      simp [Value.cells, k3, k22] at t0 t1 t2 t3 t4 t5
      obtain ⟨n0, e0, _, w0⟩ := DataW.trod_int Tryd.underlying3 t0
      obtain ⟨n1, e1, _, w1⟩ := DataW.trod_int Tryd.underlying3 t1
      obtain ⟨n2, e2, _, w2⟩ := DataW.trod_int Tryd.underlying3 t2
      obtain ⟨n3, e3, _, w3⟩ := DataW.trod_int Tryd.underlying3 t3
      obtain ⟨n4, e4, _, w4⟩ := DataW.trod_int Tryd.underlying3 t4
      simp at e0 e1 e2 e3 e4
      subst e0 e1 e2 e3 e4
      have hrow : ∃ (a : Option Addr) (cap : Nat) (zs : List Int), c5 = .slice a zs.length cap ∧ Row W a zs := by
        rcases open_ints Tryd.underlying22 Tryd.underlying3 (by kernel_rfl) t5 with ⟨hcs, _⟩ | ⟨x, l, c, zs, hcs, _, hl, hm, hz, _, hcell, hwz⟩
        · simp at hcs
          exact ⟨none, 0, [], by simpa using hcs, Row.empty _ _⟩
        · simp at hcs
          obtain ⟨ys, e, hr⟩ := row_of hl hm (by rw [hz]; split <;> omega) hcell hwz
          exact ⟨some x, c, ys, by rw [hcs, e], hr⟩
      obtain ⟨a, cap, zs, rfl, hr⟩ := hrow
      exact ⟨⟨n0, n1, n2, n3, n4, zs⟩, a, cap, rfl, hr, bounds_i64 w0, bounds_i64 w1, bounds_i64 w2, bounds_i64 w3, bounds_i64 w4⟩

theorem bytes_list (s : ByteArray) : ∃ l : List UInt8, s = ⟨l.toArray⟩ := ⟨s.data.toList, by simp⟩
theorem str_le {l : List UInt8} (h : (⟨l.toArray⟩ : ByteArray).size ≤ maxLen) : l.length ≤ 9223372036854775807 := by
  rw [size_mk] at h; exact h
theorem row_nil (w : World) : ∃ zs : List Int, 0 = zs.length ∧ Row w none zs := ⟨[], rfl, Row.empty _ _⟩

theorem open_item {H : Type} {enc : TypeId × Value → H} {W : World} {base fuel : Nat} {spare : Nat → Bool} {held : Bool} {cs : List Value} {x : DataW H × List MemPlace}
    (h : DataW.trod enc Tryd.prog W base spare held fuel 26 cs = some x) : ∃ t : It, cs = [.int .i64 t.K, .int .i64 t.V] ∧ inI t.K ∧ inI t.V := by
  obtain ⟨xs, n, _, _, hcs, hlen, hg⟩ := DataW.trod_struct Tryd.underlying26 h
  have hC : Tryd.prog.cellsOf 26 = 2 := by kernel_rfl
  have k3 : Tryd.prog.cellsOf 3 = 1 := by kernel_rfl
  rw [hC] at hcs
  match cs, hcs with
  | [u0, u1], _ =>
    match xs, hlen with
    | [y0, y1], _ =>
      have t0 := hg 0 _ rfl
      have t1 := hg 1 _ rfl
      simp [k3] at t0 t1
      obtain ⟨n0, e0, _, w0⟩ := DataW.trod_int Tryd.underlying3 t0
      obtain ⟨n1, e1, _, w1⟩ := DataW.trod_int Tryd.underlying3 t1
      simp at e0 e1
      exact ⟨⟨n0, n1⟩, by rw [e0, e1], bounds_i64 w0, bounds_i64 w1⟩

theorem list_of {α : Type} [Inhabited α] (n : Nat) (Q : Nat → α → Prop) (h : ∀ i, i < n → ∃ t, Q i t) : ∃ ts : List α, ts.length = n ∧ ∀ i (hi : i < ts.length), Q i ts[i] := by
  induction n with
  | zero => exact ⟨[], rfl, fun i hi => absurd hi (by simp)⟩
  | succ n ih =>
    obtain ⟨ts, hl, hq⟩ := ih (fun i hi => h i (by omega))
    obtain ⟨t, ht⟩ := h n (by omega)
    refine ⟨ts ++ [t], by simp [hl], fun i hi => ?_⟩
    rcases Nat.lt_or_ge i ts.length with h1 | h1
    · rw [List.getElem_append_left h1]
      exact hq i h1
    · have : i = n := by simp at hi; omega
      subst this
      rw [List.getElem_append_right h1]
      simpa [hl] using ht

theorem open_items {H : Type} {enc : TypeId × Value → H} {W : World} {base fuel : Nat} {spare : Nat → Bool} {held : Bool} {v : Value} {x : DataW H × List MemPlace}
    (h : DataW.trod enc Tryd.prog W base spare held fuel 27 [v] = some x) : ∃ (a : Option Addr) (cap : Nat) (ts : List It), v = .slice a ts.length cap ∧ RowT W a ts := by
  have hC : Tryd.prog.cellsOf 26 = 2 := by kernel_rfl
  rcases DataW.trod_slice Tryd.underlying27 h with ⟨hcs, _⟩ | ⟨a, len, cap, elems, rest, n, _, hcs, _, _, hl, hm, hlen, hel, _⟩
  · simp at hcs
    exact ⟨none, 0, [], by simpa using hcs, RowT.empty _ _⟩
  · simp at hcs
    rw [hC] at hel
    have each : ∀ i, i < len → ∃ t : It, W.cell? (a.add (i * 2)) = some (.int .i64 t.K) ∧ W.cell? ((a.add (i * 2)).add 1) = some (.int .i64 t.V) ∧ inI t.K ∧ inI t.V := by
      intro i hi
      have he := hel i hi
      rw [List.getElem?_eq_getElem (by omega), Option.bind_eq_some_iff] at he
      obtain ⟨cs, h1, h2⟩ := he
      obtain ⟨t, rfl, k1, k2⟩ := open_item h2
      have hc := (World.cells?_some h1).2.2
      have q0 := hc 0 (by omega)
      have q1 := hc 1 (by omega)
      simp [Addr.add] at q0
      refine ⟨t, ?_, by simpa using q1, k1, k2⟩
      have : (a.add (i * 2)).add 0 = a.add (i * 2) := by obtain ⟨b, off, spot⟩ := a; simp [Addr.add]
      have q0' := hc 0 (by omega)
      rw [this] at q0'
      simpa using q0'
    obtain ⟨ts, htl, hts⟩ := list_of len _ each
    subst htl
    refine ⟨some a, cap, ts, hcs, by unfold maxLen at hm; omega, fun t ht => ?_, ?_⟩
    · obtain ⟨i, hi, rfl⟩ := List.getElem_of_mem ht
      exact (hts i hi).2.2
    · by_cases h0 : ts = []
      · exact .inl h0
      · right
        have hpos : 0 < ts.length := List.length_pos_iff.2 h0
        obtain ⟨b, off, spot⟩ := a
        have hc := (hts 0 hpos).1
        have hspot : spot = none := by simpa [Addr.add] using World.cell?_spot hc
        subst hspot
        rw [addr_at] at hc
        refine ⟨b, off, rfl, World.block_lt_of_cell? _ _ hc, fun i hi => ?_⟩
        have h1 := hts i hi
        rw [addr_at, addr_at] at h1
        exact ⟨h1.1, h1.2.1⟩

/-- A frame that came in. -/
theorem open_frame {H : Type} {enc : TypeId × Value → H} {W : World} {base b0 : Nat} {spare : Nat → Bool} {held : Bool} {r : Reach} {v : Value} {d : DataW H} {p : List MemPlace}
    (hv : Value.okWide Tryd.prog W r b0 29 v) (h : DataW.Trod enc Tryd.prog W base spare held 29 v d p) :
    ∃ (f : Fr) (a : Option Addr) (cap : Nat), v = .agg #[.int .i64 f.K, .int .i64 f.R, .int .i64 f.S, .int .i64 f.P.K, .int .i64 f.P.V, .slice a f.E.length cap] ∧ RowT W a f.E ∧ inI f.K ∧ inI f.R ∧ inI f.S ∧ inI f.P.K ∧ inI f.P.V := by
  obtain ⟨cs, rfl, hsz⟩ := okWide_struct Tryd.underlying29 hv
  obtain ⟨l⟩ := cs
  have hC : Tryd.prog.cellsOf 29 = 6 := by kernel_rfl
  match l, hsz.trans hC with
  | [c0, c1, c2, c3, c4, c5], _ =>
    obtain ⟨fuel, hf⟩ := h
    obtain ⟨xs, n, _, hx, _, hlen, hg⟩ := DataW.trod_struct Tryd.underlying29 hf
    have k3 : Tryd.prog.cellsOf 3 = 1 := by kernel_rfl
    have k26 : Tryd.prog.cellsOf 26 = 2 := by kernel_rfl
    have k27 : Tryd.prog.cellsOf 27 = 1 := by kernel_rfl
    match xs, hlen with
    | [y0, y1, y2, y3, y4], _ =>
      have t0 := hg 0 _ rfl
      have t1 := hg 1 _ rfl
      have t2 := hg 2 _ rfl
      have t3 := hg 3 _ rfl
      have t4 := hg 4 _ rfl
      simp [Value.cells, k3, k26, k27] at t0 t1 t2 t3 t4
      obtain ⟨n0, e0, _, w0⟩ := DataW.trod_int Tryd.underlying3 t0
      obtain ⟨n1, e1, _, w1⟩ := DataW.trod_int Tryd.underlying3 t1
      obtain ⟨n2, e2, _, w2⟩ := DataW.trod_int Tryd.underlying3 t2
      obtain ⟨t, e3, i1, i2⟩ := open_item t3
      obtain ⟨a, cap, ts, e5, hr⟩ := open_items t4
      simp at e0 e1 e2 e3
      subst e0 e1 e2 e5
      obtain ⟨rfl, rfl⟩ := e3
      exact ⟨⟨n0, n1, n2, t, ts⟩, a, cap, rfl, hr, bounds_i64 w0, bounds_i64 w1, bounds_i64 w2, i1, i2⟩

end Go.Proofs.YtkflijbhlibadabDoor
/-
  A region that draws its order, walked once in a class of worlds: every operation yields one value in all of them, and a call leaves another of them.
-/
namespace Go.Proofs.YtkflijbhlibadabDoor
open Go.RowKit
set_option maxRecDepth 100000
set_option linter.unusedVariables false

theorem wp_region_class {P : Program} {id : Nat} {Q : Exit → Act → World → Prop} {a : Act} {w : World} {l : List Oper} {I : Type} (F : I → World) (i0 : I) (h0 : F i0 = w.drew) (hm : P.follows .mixedOrders = true) (hB : Region.lexB .any l.toArray = true)
    (h : wpQuiet P l.toArray (fun w' => ∃ i, w' = F i) (fun a' => ∀ w', (∃ i, w' = F i) → Q .normal a' w') l a) : (Code.region id l.toArray true).wp P Q a w :=
  wp_region_quiet (C := fun w' => ∃ i, w' = F i) hm hB ⟨i0, h0.symm⟩ (by simpa using h)

/-- A call by a contract that makes memory alone. -/
theorem class_call {P : Program} {f : FuncId} {args : Array Value} {I : Type} {F : I → World} (hcl : ∀ i w', Below (F i).heap.size (F i) w' → ∃ j, w' = F j) {v : Value} {i : I}
    (h : Calls P f args (F i) fun e w' => e = .returned v ∧ Below (F i).heap.size (F i) w') : Calls P f args (F i) fun e w' => e = .returned v ∧ ∃ j, w' = F j :=
  h.mono fun _ _ ⟨he, hb⟩ => ⟨he, hcl _ _ hb⟩
/-- By one that leaves the world. -/
theorem class_same {P : Program} {f : FuncId} {args : Array Value} {I : Type} {F : I → World} {v : Value} {i : I}
    (h : Calls P f args (F i) fun e w' => e = .returned v ∧ F i = w') : Calls P f args (F i) fun e w' => e = .returned v ∧ ∃ j, w' = F j :=
  h.mono fun _ _ ⟨he, hb⟩ => ⟨he, i, hb.symm⟩

/-- The worlds behind w in which all that lay in it is as it was. -/
theorem class_of (w : World) (R : World → Prop) (h : R w.drew) (hR : ∀ W W', R W → Below W.heap.size W W' → R W') : ∃ (I : Type) (F : I → World) (i0 : I), F i0 = w.drew ∧ (∀ i, R (F i)) ∧ (∀ i w', Below (F i).heap.size (F i) w' → ∃ j, w' = F j) :=
  ⟨{ W : World // R W }, Subtype.val, ⟨w.drew, h⟩, rfl, fun i => i.2, fun i w' hb => ⟨⟨w', hR _ _ i.2 hb⟩, rfl⟩⟩

end Go.Proofs.YtkflijbhlibadabDoor
/-
  Classes of worlds by what holds on in them; facts that hold on where a call makes memory alone.
-/
namespace Go.Proofs.YtkflijbhlibadabDoor
open Go.RowKit Plait
set_option maxRecDepth 100000
set_option linter.unusedVariables false

/-- A fact that holds on where all that lay is as it was. -/
def Stable (R : World → Prop) : Prop := ∀ W W', R W → Below W.heap.size W W' → R W'

theorem stable_and {R S : World → Prop} (h : Stable R) (k : Stable S) : Stable fun W => R W ∧ S W := fun W W' ⟨a, b⟩ hb => ⟨h W W' a hb, k W W' b hb⟩
theorem stable_below (w : World) : Stable fun W => Below w.heap.size w W := fun W W' a hb => a.trans (hb.mono a.size)
theorem stable_blk (g : Nat) (t : TypeId) (cs : Array Value) : Stable fun W => Blk W g t cs := fun W W' a hb => a.later hb
theorem stable_row (a : Option Addr) (zs : List Int) : Stable fun W => Row W a zs := fun W W' h hb => h.later hb
theorem stable_rowT (a : Option Addr) (ts : List It) : Stable fun W => RowT W a ts := fun W W' h hb => h.later hb

theorem class_any (w : World) {R : World → Prop} (hR : Stable R) (h : R w) : ∃ (I : Type) (F : I → World) (i0 : I), F i0 = w.drew ∧ (∀ i, R (F i)) ∧ (∀ i w', Below (F i).heap.size (F i) w' → ∃ j, w' = F j) :=
  class_of w R (hR w _ h (Below.refl _ _).drew) hR

end Go.Proofs.YtkflijbhlibadabDoor
/-
  Contracts of plaitingref5, second part: texts of frames.
-/
namespace Go.Proofs.YtkflijbhlibadabDoor
open Go.RowKit Plait
set_option maxRecDepth 100000
set_option linter.unusedVariables false

/-- The loop over the items. -/
def TextAt (f : Fr) (a : Option Addr) (cap : Nat) (w : World) (s i : Value) (w' : World) : Prop :=
  ∃ k : Nat, k ≤ f.E.length ∧ i = .int .i64 k ∧ s = .string ⟨(frHead f ++ (f.E.take k).flatMap itBits).toArray⟩ ∧ Below w.heap.size w w' ∧ Blk w' (w.heap.size + 1) 29 (frBox f a cap)

theorem items_take (E : List It) (k : Nat) (h : k < E.length) : (E.take (k + 1)).flatMap itBits = (E.take k).flatMap itBits ++ itBits E[k] := by
  rw [List.take_succ_eq_append_getElem h, List.flatMap_append]
  simp

set_option maxHeartbeats 3200000 in
theorem rText_any (c : Cf) (ca : Option Addr) (cc : Nat) (f : Fr) (a : Option Addr) (cap : Nat) (w : World) (hE : RowT w a f.E) (hl : f.E.length ≤ 1000) :
    Calls Tryd.prog 14 #[.agg #[.int .i64 c.N, .int .i64 c.Pi, .int .i64 c.E, .int .i64 c.G, .int .i64 c.F, .slice ca c.P.length cc], .agg #[.int .i64 f.K, .int .i64 f.R, .int .i64 f.S, .int .i64 f.P.K, .int .i64 f.P.V, .slice a f.E.length cap]] w fun e w' => e = .returned (.string ⟨(textF f).toArray⟩) ∧ Below w.heap.size w w' := by
  have h2 := bitsI_len f.K 2
  have h16 := bitsI_len f.R 16
  have h6 := bitsI_len f.S 6
  have hp := itBits_length f.P
  have HF := Lib.hid (show bitsI f.K 2 ++ (bitsI f.R 16 ++ (bitsI f.S 6 ++ itBits f.P)) = frHead f by
    rw [show bitsI f.K 2 = bitsL f.K 2 from bitsI_of f.K 2 (by omega) (by omega), show bitsI f.R 16 = bitsL f.R 16 from bitsI_of f.R 16 (by omega) (by omega), show bitsI f.S 6 = bitsL f.S 6 from bitsI_of f.S 6 (by omega) (by omega)]; simp [frHead])
  have r1 := fun W : World => add_run (bitsI f.K 2) (bitsI f.R 16) (by omega) (by omega) W
  have r2 := fun W : World => add_run (bitsI f.K 2 ++ bitsI f.R 16) (bitsI f.S 6) (by rw [List.length_append]; omega) (by omega) W
  have r3 := fun W : World => add_run (bitsI f.K 2 ++ (bitsI f.R 16 ++ bitsI f.S 6)) (itBits f.P) (by rw [List.length_append, List.length_append]; omega) (by omega) W
  clear hp h2 h16 h6
  have hB : Below w.heap.size w ((w.alloc (.cells #[.int .i64 c.N, .int .i64 c.Pi, .int .i64 c.E, .int .i64 c.G, .int .i64 c.F, .slice ca c.P.length cc] 24)).alloc (.cells #[.int .i64 f.K, .int .i64 f.R, .int .i64 f.S, .int .i64 f.P.K, .int .i64 f.P.V, .slice a f.E.length cap] 29)) := (alloc_below w _).alloc (by simp) _
  have hK : Blk ((w.alloc (.cells #[.int .i64 c.N, .int .i64 c.Pi, .int .i64 c.E, .int .i64 c.G, .int .i64 c.F, .slice ca c.P.length cc] 24)).alloc (.cells #[.int .i64 f.K, .int .i64 f.R, .int .i64 f.S, .int .i64 f.P.K, .int .i64 f.P.V, .slice a f.E.length cap] 29)) (w.heap.size + 1) 29 (frBox f a cap) := Blk.newAt _ _ (by simp)
  go_enter Tryd.func14, Tryd.ntmps14
  go_wp2_with fail
  generalize (w.alloc (.cells #[.int .i64 c.N, .int .i64 c.Pi, .int .i64 c.E, .int .i64 c.G, .int .i64 c.F, .slice ca c.P.length cc] 24)).alloc (.cells #[.int .i64 f.K, .int .i64 f.R, .int .i64 f.S, .int .i64 f.P.K, .int .i64 f.P.V, .slice a f.E.length cap] 29) = wn at *
  obtain ⟨I, F, i0, h0, hR, hcl⟩ := class_any wn (stable_and (stable_below w) (stable_blk (w.heap.size + 1) 29 (frBox f a cap))) ⟨hB, hK⟩
  have K_hB := Lib.hid (fun i => (hR i).1)
  have qhK0 : ∀ i, (F i).cell? ⟨w.heap.size + 1, 0, none⟩ = some (.int .i64 f.K) := fun i => by rw [(hR i).2.at]; rfl
  have qhK1 : ∀ i, (F i).cell? ⟨w.heap.size + 1, 1, none⟩ = some (.int .i64 f.R) := fun i => by rw [(hR i).2.at]; rfl
  have qhK2 : ∀ i, (F i).cell? ⟨w.heap.size + 1, 2, none⟩ = some (.int .i64 f.S) := fun i => by rw [(hR i).2.at]; rfl
  have qhK3 : ∀ i, (F i).cell? ⟨w.heap.size + 1, 3, none⟩ = some (.int .i64 f.P.K) := fun i => by rw [(hR i).2.at]; rfl
  have qhK4 : ∀ i, (F i).cell? ⟨w.heap.size + 1, 4, none⟩ = some (.int .i64 f.P.V) := fun i => by rw [(hR i).2.at]; rfl
  have qhK5 : ∀ i, (F i).cell? ⟨w.heap.size + 1, 5, none⟩ = some (.slice a f.E.length cap) := fun i => by rw [(hR i).2.at]; rfl
  have K_hK := Lib.hid (fun i => (hR i).2)
  have HR := Lib.hid hR
  have HC := Lib.hid hcl
  have H0 := Lib.hid h0
  clear hR hcl h0
  haveI : Nonempty I := ⟨i0⟩
  refine wp_region_class F i0 H0.out (by kernel_rfl) (by kernel_rfl) ?_
  repeat (go_big_quiet_step ((first | (go_at_call 27; exact class_same (rbits_any _ _ _)) | (go_at_call 28; exact class_call HC.out (rbits5_any f.P _)))))
  refine wpQuiet_nil ?_
  intro _ hw'
  obtain ⟨iq, hw''⟩ := hw'
  subst hw''
  clear hB hK K_hB qhK0 qhK1 qhK2 qhK3 qhK4 qhK5 K_hK HC H0
  obtain ⟨hB, hK⟩ := HR.out iq
  clear HR
  generalize F iq = wn at *
  rw [HF.out]
  clear r1 r2 r3 HF
  have HW := Lib.hid (fun W => rwrap_any (frBits f) W (by rw [frBits_length]; omega))
  have HT := Lib.hid (show textF f = wrapL (frBits f) from rfl)
  have hh := frHead_length f
  have h34 : (frHead f).length ≤ 34 := by omega
  clear hh
  go_wp2
  go_loopw [5, 6] (fun s i w' => TextAt f a cap w s i w') (fun _ i _ => f.E.length - (intOf i).toNat)
  case atStart => exact ⟨0, Nat.zero_le _, rfl, by simp, hB, hK⟩
  case round =>
    clear hB hK
    obtain ⟨k, hk, rfl, rfl, hB, hK⟩ := hrel
    have hQ := hK.at
    unfold frBox at hQ
    by_cases hlt : k < f.E.length
    · have d1 : decide (k < f.E.length) = true := by simpa using hlt
      obtain ⟨b, off, rfl, hbl, c1, c2, _, _⟩ := (hE.later hB).get k hlt
      have HS := Lib.hid (items_take f.E k hlt)
      have hx : ((f.E.take k).flatMap itBits).length ≤ 10000 := by rw [items_length, List.length_take]; omega
      have hy : (itBits f.E[k]).length ≤ 10 := by rw [itBits_length]; omega
      have HC := Lib.hid (fun W => rbits5_any f.E[k] W)
      generalize itBits f.E[k] = Y at *
      generalize (f.E.take k).flatMap itBits = X at *
      generalize f.E[k] = t at *
      go_wp2_with fail
      refine (HC.out _).mono ?_
      rintro e wn ⟨rfl, hb⟩
      replace hB := hB.trans (hb.mono hB.size)
      replace hK := hK.later hb
      clear hb hQ c1 c2 HC
      go_wp2
      go_roundw
      case rel => exact ⟨k + 1, by omega, by go_num, by rw [HS.out], hB, hK⟩
      case measure => simp [intOf]; omega
    · have d1 : decide (k < f.E.length) = false := by simpa using hlt
      have HE := Lib.hid (show frHead f ++ (f.E.take k).flatMap itBits = frBits f by rw [List.take_of_length_le (by omega)]; rfl)
      rw [HE.out]
      go_wp2_with fail
      refine (HW.out _).mono ?_
      rintro e wl ⟨rfl, rfl⟩
      go_wp2
      go_ret
      exact ⟨ret_str5 HT.out.symm, hB⟩

end Go.Proofs.YtkflijbhlibadabDoor
/-
  Contracts of plaitingref5, third part: whether frames are the same, whether one may be.
-/
namespace Go.Proofs.YtkflijbhlibadabDoor
open Go.RowKit Plait
set_option maxRecDepth 100000
set_option linter.unusedVariables false

/-- The loop of Items. -/
def ItemsAt (xs ys : List It) (w : World) (i : Value) (w' : World) : Prop := ∃ k : Nat, k ≤ xs.length ∧ i = .int .i64 k ∧ xs.take k = ys.take k ∧ Below w.heap.size w w'

theorem it_ext (a b : It) (h : a.K = b.K) (h2 : a.V = b.V) : a = b := by cases a; cases b; simp_all

theorem items_step (xs ys : List It) (k : Nat) (h : k < xs.length) (h2 : k < ys.length) (ha : xs.take k = ys.take k) (e : xs[k] = ys[k]) : xs.take (k + 1) = ys.take (k + 1) := by
  rw [List.take_succ_eq_append_getElem h, List.take_succ_eq_append_getElem h2, ha, e]
theorem items_no (xs ys : List It) (k : Nat) (h : k < xs.length) (h2 : k < ys.length) (e : xs[k] ≠ ys[k]) : decide (xs = ys) = false := by
  rw [decide_eq_false_iff_not]
  rintro rfl
  exact e rfl
theorem items_end (xs ys : List It) (k : Nat) (h : ¬ k < xs.length) (hl : xs.length = ys.length) (ha : xs.take k = ys.take k) : decide (xs = ys) = true := by
  rw [List.take_of_length_le (by omega), List.take_of_length_le (by omega)] at ha
  simp [ha]

set_option maxHeartbeats 1600000 in
theorem rItems_any (a b : Option Addr) (xs ys : List It) (ca cb : Nat) (w : World) (hx : RowT w a xs) (hy : RowT w b ys) :
    Calls Tryd.prog 36 #[.slice a xs.length ca, .slice b ys.length cb] w fun e w' => e = .returned (.bool (decide (xs = ys))) ∧ Below w.heap.size w w' := by
  have hlx := hx.1
  have hly := hy.1
  by_cases hl : xs.length = ys.length
  · have HL := Lib.hid hl
    have d0 : ((xs.length : Int) != (ys.length : Int)) = false := by simp [hl]
    clear hl
    go_enter Tryd.func36, Tryd.ntmps36
    go_wp2
    go_loopw [5] (fun i w' => ItemsAt xs ys w i w') (fun i _ => xs.length - (intOf i).toNat)
    case atStart => exact ⟨0, Nat.zero_le _, rfl, by simp, Below.refl _ _⟩
    case round =>
      obtain ⟨k, hk, rfl, ha, hB⟩ := hrel
      have HA := Lib.hid ha
      clear ha
      by_cases hlt : k < xs.length
      · have d1 : decide (k < xs.length) = true := by simpa using hlt
        have hlt2 : k < ys.length := by have := HL.out; omega
        obtain ⟨b1, o1, rfl, hb1, hc1, hc2, _, _⟩ := (hx.later hB).get k hlt
        obtain ⟨b2, o2, rfl, hb2, hc3, hc4, _, _⟩ := (hy.later hB).get k hlt2
        have g0 : (0 : Int) ≤ (k : Int) := by omega
        have g1 : (k : Int) < (xs.length : Int) := by omega
        have g2 : (k : Int) < (ys.length : Int) := by omega
        have HS := Lib.hid (fun e => items_step xs ys k hlt hlt2 HA.out e)
        have HN := Lib.hid (fun e => items_no xs ys k hlt hlt2 e)
        generalize xs[k] = x at *
        generalize ys[k] = y at *
        cases e1 : (x.K == y.K)
        · have HF := Lib.hid (HN.out (fun e => by rw [e] at e1; simp at e1))
          go_wp2
          go_quiet (fail)
          go_wp2
          go_ret
          exact ⟨ret_bool HF.out.symm, below_drewN hB _⟩
        · cases e2 : (x.V == y.V)
          · have HF := Lib.hid (HN.out (fun e => by rw [e] at e2; simp at e2))
            go_wp2
            go_quiet (fail)
            go_wp2
            go_ret
            exact ⟨ret_bool HF.out.symm, below_drewN hB _⟩
          · have HF := Lib.hid (HS.out (it_ext x y (eq_of_beq e1) (eq_of_beq e2)))
            go_wp2
            go_quiet (fail)
            go_wp2
            go_roundw
            case rel => exact ⟨k + 1, by omega, by go_num, HF.out, below_drewN hB _⟩
            case measure => simp [intOf]; omega
      · have d1 : decide (k < xs.length) = false := by simpa using hlt
        have HF := Lib.hid (items_end xs ys k hlt HL.out HA.out)
        go_wp2
        go_ret
        exact ⟨ret_bool HF.out.symm, hB⟩
  · have d0 : ((xs.length : Int) != (ys.length : Int)) = true := by simp; omega
    have HF := Lib.hid (show decide (xs = ys) = false by rw [decide_eq_false_iff_not]; rintro rfl; exact hl rfl)
    clear hl
    go_enter Tryd.func36, Tryd.ntmps36
    go_wp2
    go_ret
    exact ⟨ret_bool HF.out.symm, Below.refl _ _⟩

theorem fr_dec (f g : Fr) (h1 : f.K = g.K) (h2 : f.R = g.R) (h3 : f.S = g.S) (h4 : f.P.K = g.P.K) (h5 : f.P.V = g.P.V) : decide (f = g) = decide (f.E = g.E) := by
  have hp := it_ext f.P g.P h4 h5
  cases f
  cases g
  simp_all

theorem fr_no (f g : Fr) (h : f.K ≠ g.K ∨ f.R ≠ g.R ∨ f.S ≠ g.S ∨ f.P.K ≠ g.P.K ∨ f.P.V ≠ g.P.V) : decide (f = g) = false := by
  rw [decide_eq_false_iff_not]
  rintro rfl
  simp at h

set_option maxHeartbeats 3200000 in
theorem rSame5_any (f g : Fr) (fa ga : Option Addr) (fc gc : Nat) (w : World) (hf : RowT w fa f.E) (hg : RowT w ga g.E) :
    Calls Tryd.prog 20 #[.agg #[.int .i64 f.K, .int .i64 f.R, .int .i64 f.S, .int .i64 f.P.K, .int .i64 f.P.V, .slice fa f.E.length fc], .agg #[.int .i64 g.K, .int .i64 g.R, .int .i64 g.S, .int .i64 g.P.K, .int .i64 g.P.V, .slice ga g.E.length gc]] w fun e w' => e = .returned (.bool (decide (f = g))) ∧ Below w.heap.size w w' := by
  have hB : Below w.heap.size w ((w.alloc (.cells #[.int .i64 f.K, .int .i64 f.R, .int .i64 f.S, .int .i64 f.P.K, .int .i64 f.P.V, .slice fa f.E.length fc] 29)).alloc (.cells #[.int .i64 g.K, .int .i64 g.R, .int .i64 g.S, .int .i64 g.P.K, .int .i64 g.P.V, .slice ga g.E.length gc] 29)) := (alloc_below w _).alloc (by simp) _
  by_cases h1 : f.K = g.K
  · have e1 : (f.K != g.K) = false := by simpa using h1
    by_cases h2 : f.R = g.R
    · have e2 : (f.R != g.R) = false := by simpa using h2
      by_cases h3 : f.S = g.S
      · have e3 : (f.S != g.S) = false := by simpa using h3
        by_cases h4 : f.P.K = g.P.K
        · have e4 : (f.P.K == g.P.K) = true := by simpa using h4
          by_cases h5 : f.P.V = g.P.V
          · have e5 : (f.P.V == g.P.V) = true := by simpa using h5
            have HF := Lib.hid (fr_dec f g h1 h2 h3 h4 h5)
            have hK : Blk ((w.alloc (.cells #[.int .i64 f.K, .int .i64 f.R, .int .i64 f.S, .int .i64 f.P.K, .int .i64 f.P.V, .slice fa f.E.length fc] 29)).alloc (.cells #[.int .i64 g.K, .int .i64 g.R, .int .i64 g.S, .int .i64 g.P.K, .int .i64 g.P.V, .slice ga g.E.length gc] 29)) (w.heap.size + 1) 29 (frBox g ga gc) := Blk.newAt _ _ (by simp)
            have HI := Lib.hid (rItems_any fa ga f.E g.E fc gc _ (hf.later hB) (hg.later hB))
            clear h1 h2 h3 h4 h5 hK
            go_enter Tryd.func20, Tryd.ntmps20
            go_wp2_with fail
            refine HI.out.mono ?_
            rintro e wn ⟨rfl, hb⟩
            go_wp2
            go_ret
            exact ⟨ret_bool HF.out.symm, hB.trans (hb.mono hB.size)⟩
          · have e5 : (f.P.V == g.P.V) = false := by simpa using h5
            have HF := Lib.hid (fr_no f g (by simp [h5]))
            clear h1 h2 h3 h4 h5
            go_enter Tryd.func20, Tryd.ntmps20
            go_wp2
            go_ret
            exact ⟨ret_bool HF.out.symm, hB⟩
        · have e4 : (f.P.K == g.P.K) = false := by simpa using h4
          have HF := Lib.hid (fr_no f g (by simp [h4]))
          clear h1 h2 h3 h4
          go_enter Tryd.func20, Tryd.ntmps20
          go_wp2
          go_ret
          exact ⟨ret_bool HF.out.symm, hB⟩
      · have e3 : (f.S != g.S) = true := by simpa using h3
        have HF := Lib.hid (fr_no f g (by simp [h3]))
        clear h1 h2 h3
        go_enter Tryd.func20, Tryd.ntmps20
        go_wp2
        go_ret
        exact ⟨ret_bool HF.out.symm, hB⟩
    · have e2 : (f.R != g.R) = true := by simpa using h2
      have HF := Lib.hid (fr_no f g (by simp [h2]))
      clear h1 h2
      go_enter Tryd.func20, Tryd.ntmps20
      go_wp2
      go_ret
      exact ⟨ret_bool HF.out.symm, hB⟩
  · have e1 : (f.K != g.K) = true := by simpa using h1
    have HF := Lib.hid (fr_no f g (by simp [h1]))
    clear h1
    go_enter Tryd.func20, Tryd.ntmps20
    go_wp2
    go_ret
    exact ⟨ret_bool HF.out.symm, hB⟩

end Go.Proofs.YtkflijbhlibadabDoor

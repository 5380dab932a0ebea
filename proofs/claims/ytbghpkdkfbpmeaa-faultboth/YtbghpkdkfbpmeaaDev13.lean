/-
  Contracts of package frame, fifth part: numbers out of bits, items out of numbers.
-/
import Derived.Test.YtbghpkdkfbpmeaaDev12
namespace Go.Proofs.Ytbghpkdkfbpmeaa
open Go.RowKit Plait
set_option maxRecDepth 100000
set_option linter.unusedVariables false

theorem fvalueOf_any (c : UInt8) (w : World) :
    Calls Try.prog 77 #[.int .i32 (c.toNat : Nat)] w fun e w' => e = .returned (.int .i64 ((c.toNat : Int) - 48)) ∧ w = w' := by
  have hc : c.toNat < 256 := c.toNat_lt
  go_enter Try.func77, Try.ntmps77
  go_wp2
  go_ret
  exact ⟨rfl, rfl⟩

theorem or_bit2 (N : Nat) (c : UInt8) (hN : N < 2305843009213693952) (hc : c.toNat = 48 ∨ c.toNat = 49) : bits .or .i64 ((N : Int) * 2) ((c.toNat : Int) - 48) = ((2 * N + if c = 49 then 1 else 0 : Nat) : Int) := by
  rw [← or_bit N c hN hc]
  congr 1
  rcases hc with h | h <;> rw [h] <;> simp [wrap64, wrap32]

theorem next_at (l : List UInt8) (w : World) (k pos : Nat) (hk : w.heap[k]? = some (.stringIter ⟨l.toArray⟩ pos)) (hlt : pos < l.length) (ha : l[pos].toNat < 128) : ∀ ty, (Instr.next (.pointer (some ⟨k, 0, none⟩)) true ty).run Try.prog w = .ok (.tuple #[.bool true, .int .i64 pos, .int .i32 (l[pos].toNat : Nat)]) (w.iterAt k ⟨l.toArray⟩ (pos + 1)) := fun ty => by
  have hlt' : pos < (⟨l.toArray⟩ : ByteArray).size := by rw [size_mk]; exact hlt
  rw [Lib.run_next_ascii_at w k ⟨l.toArray⟩ pos ty hk hlt' (by rw [get_mk l pos hlt']; exact ha), get_mk l pos hlt']
theorem next_at_end (l : List UInt8) (w : World) (k pos : Nat) (hk : w.heap[k]? = some (.stringIter ⟨l.toArray⟩ pos)) (hlt : ¬ pos < l.length) : ∀ ty, (Instr.next (.pointer (some ⟨k, 0, none⟩)) true ty).run Try.prog w = .ok (.tuple #[.bool false]) w := fun ty =>
  Lib.run_next_end_at w k ⟨l.toArray⟩ pos ty hk (by rw [size_mk]; exact hlt)

theorem off_ge (q : Nat) : 2 * q ≤ offN q := by
  unfold offN
  rcases (by omega : q = 0 ∨ q = 1 ∨ q = 2 ∨ 3 ≤ q) with rfl | rfl | rfl | h
  · simp
  · simp
  · simp
  · rw [if_neg (by omega), if_neg (by omega), if_neg (by omega)]; omega

theorem OwnI.iterAt {base : Nat} {w : World} {v : Value} {zs : List Int} (h : OwnI base w v zs) {k : Nat} (hk : k < base) (s : ByteArray) (pos : Nat) : OwnI base (w.iterAt k s pos) v zs := by
  refine ⟨h.1, ?_⟩
  rcases h.2 with h | ⟨g, cap, cur, h1, h2, h3, h4⟩
  · exact .inl h
  · exact .inr ⟨g, cap, cur, h1, h2, by rw [Lib.iterAt_other _ _ _ _ _ (by omega)]; exact h3, h4⟩

/-- The loop of readNumbers. -/
def ReadsAt (b : List UInt8) (w : World) (v n m : Value) (w' : World) : Prop :=
  ∃ pos q M : Nat, pos ≤ b.length ∧ offN q ≤ pos ∧ pos + (M + 1) = offN (q + 1) ∧ w'.heap[w.heap.size]? = some (.stringIter ⟨b.toArray⟩ pos) ∧ n = .int .i64 (numV ((b.drop (offN q)).take (pos - offN q)) : Nat) ∧ m = .int .i64 ((M : Int) + 1) ∧
    OwnI (w.heap.size + 1) w' v (numsOf b q) ∧ Below w.heap.size w w' ∧ w.heap.size < w'.heap.size

theorem iterPos_of {w : World} {k : Nat} {s : ByteArray} {pos : Nat} (h : w.heap[k]? = some (.stringIter s pos)) : w.iterPos k = pos := by
  unfold World.iterPos
  rw [h]

theorem numV_small (b : List UInt8) (q pos : Nat) (h1 : offN q ≤ pos) (h2 : pos < offN (q + 1)) : numV ((b.drop (offN q)).take (pos - offN q)) < 65536 := by
  have h3 := numV_lt ((b.drop (offN q)).take (pos - offN q))
  have h4 := (szN_range q).2
  rw [offN_succ] at h2
  have h5 : ((b.drop (offN q)).take (pos - offN q)).length ≤ 16 := by rw [List.length_take]; omega
  have h6 : (2 : Nat) ^ ((b.drop (offN q)).take (pos - offN q)).length ≤ 2 ^ 16 := Nat.pow_le_pow_right (by decide) h5
  omega

set_option maxHeartbeats 3200000 in
set_option maxRecDepth 100000 in
theorem freadNumbers_any (b : List UInt8) (w : World) (hall : allBits b) (hs : b.length ≤ 1048576) :
    Calls Try.prog 66 #[.string ⟨b.toArray⟩] w fun e w' => ∃ m, offN m ≤ b.length ∧ b.length < offN (m + 1) ∧ OwnRet (numsOf b m) w e w' := by
  have HC0 := Lib.hid (fun W => fsizeAt_any 0 W (by omega))
  go_enter Try.func66, Try.ntmps66
  go_wp2_with fail
  refine (HC0.out _).mono ?_
  rintro e wl ⟨rfl, rfl⟩
  go_wp2
  go_loopw [3, 4, 5, 7] (fun v n m _ w' => ReadsAt b w v n m w') (fun _ _ _ _ w' => b.length - w'.iterPos w.heap.size)
  case atStart => exact ⟨0, 0, 1, Nat.zero_le _, by decide, by decide, heap_alloc_new w _, rfl, rfl, OwnI.nil _ _, alloc_below w _, by show w.heap.size < (w.alloc _).heap.size; simp⟩
  case round =>
    obtain ⟨pos, q, M, hp, ho1, ho2, hit, rfl, rfl, hown, hB, hsz⟩ := hrel
    by_cases hlt : pos < b.length
    · have hbit : b[pos].toNat = 48 ∨ b[pos].toNat = 49 := (bit_toNat _).1 (hall _ (List.getElem_mem hlt))
      have hnx := next_at b wr w.heap.size pos hit hlt (by omega)
      have hN := numV_small b q pos ho1 (by omega)
      have HT := Lib.hid (show numV ((b.drop (offN q)).take (pos + 1 - offN q)) = 2 * numV ((b.drop (offN q)).take (pos - offN q)) + if b[pos] = 49 then 1 else 0 by
        have h := numV_step b (offN q) (pos - offN q) (by omega)
        rw [show pos - offN q + 1 = pos + 1 - offN q by omega] at h
        rw [h]
        congr 3
        simp [show offN q + (pos - offN q) = pos by omega])
      generalize hNe : numV ((b.drop (offN q)).take (pos - offN q)) = N at *
      have HO := Lib.hid (or_bit2 N b[pos] (by omega) hbit)
      have HV := Lib.hid (fun W => fvalueOf_any b[pos] W)
      have HI := Lib.iterAt_heap wr w.heap.size ⟨b.toArray⟩ pos (pos + 1) hit
      have hBi := Lib.below_iterAt hB (Nat.le_refl w.heap.size) ⟨b.toArray⟩ (pos + 1)
      have hoi := hown.iterAt (k := w.heap.size) (by omega) ⟨b.toArray⟩ (pos + 1)
      have hsi : w.heap.size < (wr.iterAt w.heap.size ⟨b.toArray⟩ (pos + 1)).heap.size := by rw [Lib.iterAt_size]; exact hsz
      have hip := Lib.hid (iterPos_of hit)
      have hn2 : (if b[pos] = 49 then 1 else 0) ≤ 1 := by split <;> omega
      clear hNe hB hown hbit hit hsz
      generalize b[pos].toNat = ch at *
      generalize (if b[pos] = 49 then 1 else 0) = bt at *
      obtain ⟨Z, hZ⟩ : ∃ Z, 2 * N + bt = Z := ⟨_, rfl⟩
      rw [hZ] at HT HO
      have hZ1 : Z < 131072 := by omega
      clear hZ hn2
      go_wp2_with fail
      refine (HV.out _).mono ?_
      rintro e wl ⟨rfl, rfl⟩
      generalize wr.iterAt w.heap.size ⟨b.toArray⟩ (pos + 1) = wi at *
      clear hnx
      have hor := HO.out
      have hM : M ≤ 16 := by have := offN_succ q; have := (szN_range q).2; omega
      by_cases hm : M = 0
      · have d1 : ((M : Int) == 0) = true := by simp; omega
        have hq : pos + 1 = offN (q + 1) := by omega
        have HS := Lib.hid (show numsOf b (q + 1) = numsOf b q ++ [(Z : Int)] by
          rw [numsOf_succ, ← HT.out]
          unfold numAt
          rw [show szN q = pos + 1 - offN q by have := offN_succ q; omega])
        have hol := hoi.lt
        have hql := off_ge q
        have hll : (numsOf b q).length = q := numsOf_len b q
        have hll2 : (numsOf b q).length ≤ 1000000 := by rw [hll]; omega
        have HLL := Lib.hid hll
        clear hll
        have HC := Lib.hid (fun W => fsizeAt_any (q + 1) W (by omega))
        generalize numsOf b q = ZS at *
        obtain ⟨av, cv, rfl⟩ := hoi.form
        go_wp2_with (at_builtin; refine wpList_app1 _ rfl _ _ rfl (w.heap.size + 1) (.slice av ZS.length cv) ZS rfl (hoi.later (alloc_below _ _)) wi.heap.size 1 (Z : Int) rfl (heap_alloc_new _ _) hll2 (by simp; omega) ?_; intro g cap' w2 h1' h2' h3' h4')
        rw [show ((ZS.length : Int) + 1) = ((q + 1 : Nat) : Int) by rw [HLL.out]; rfl]
        refine (HC.out _).mono ?_
        rintro e wl ⟨rfl, rfl⟩
        have hs2 := offN_succ (q + 1)
        have hr2 := (szN_range (q + 1)).1
        have hi2 : w2.heap[w.heap.size]? = some (.stringIter ⟨b.toArray⟩ (pos + 1)) := by
          rw [h2'.block w.heap.size (by simp; omega) (fun e => by have := (hol _ e.symm).1; omega)]
          exact (Below.heap_alloc wi _ _ hsi).trans HI
        go_wp2
        go_roundw
        case rel =>
          refine ⟨pos + 1, q + 1, szN (q + 1) - 1, by omega, by omega, by omega, hi2, ?_, by congr 1; omega, by rw [HS.out]; exact h1', ?_, ?_⟩
          · rw [show pos + 1 - offN (q + 1) = 0 by omega]; rfl
          · exact below_grown (hBi.alloc (by omega) _) (by simp; omega) h2' (fun g e => by have := (hol g e).1; omega)
          · have := h2'.size; simp at this; omega
        case measure => rw [iterPos_of hi2, hip.out]; omega
      · have d1 : ((M : Int) == 0) = false := by simp; omega
        go_wp2
        go_roundw
        case rel => exact ⟨pos + 1, q, M - 1, by omega, by omega, by omega, HI, by rw [HT.out], by congr 1; omega, hoi, hBi, hsi⟩
        case measure => rw [iterPos_of HI, hip.out]; omega
    · have hnx := next_at_end b wr w.heap.size pos hit hlt
      obtain rfl : pos = b.length := by omega
      clear hit
      obtain ⟨av, cv, rfl⟩ := hown.form
      go_wp2
      go_ret
      exact ⟨q, ho1, by omega, _, rfl, hown.weak (by omega), hB⟩

end Go.Proofs.Ytbghpkdkfbpmeaa

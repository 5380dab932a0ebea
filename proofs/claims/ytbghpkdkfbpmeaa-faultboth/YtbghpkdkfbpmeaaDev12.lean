/-
  Contracts of package frame, fourth part: Text.
-/
import Derived.Test.YtbghpkdkfbpmeaaDev11
namespace Go.Proofs.Ytbghpkdkfbpmeaa
open Go.RowKit Plait
set_option maxRecDepth 100000
set_option linter.unusedVariables false

theorem OwnI.weak {base base' : Nat} {w : World} {v : Value} {zs : List Int} (h : OwnI base w v zs) (hb : base' ≤ base) : OwnI base' w v zs := by
  refine ⟨h.1, ?_⟩
  rcases h.2 with h | ⟨g, cap, cur, h1, h2, h3⟩
  · exact .inl h
  · exact .inr ⟨g, cap, cur, h1, by omega, h3⟩

/-- The loop of Text. -/
def WriteAt (zs : List Int) (v : Value) (b : Nat) (w : World) (i : Value) (w' : World) : Prop :=
  ∃ k : Nat, k ≤ zs.length ∧ i = .int .i64 k ∧ Bd b b (wrN zs k) w' ∧ OwnI w.heap.size w' v zs ∧ Below w.heap.size w w' ∧ b ≤ w'.heap.size

theorem numsF_in (f : Fr) (h1 : inI f.K) (h2 : inI f.R) (h3 : inI f.S) (h4 : inI f.P.K) (h5 : inI f.P.V) (hE : ∀ t ∈ f.E, inI t.K ∧ inI t.V) : ∀ z ∈ numsF f, -9223372036854775808 ≤ z ∧ z ≤ 9223372036854775807 := by
  intro z hz
  unfold numsF at hz
  rcases List.mem_append.1 hz with h | h
  · simp at h
    rcases h with rfl | rfl | rfl | rfl | rfl
    · exact h1
    · exact h2
    · exact h3
    · exact h4
    · exact h5
  · obtain ⟨t, ht, h⟩ := List.mem_flatMap.1 h
    simp at h
    rcases h with rfl | rfl
    · exact (hE t ht).1
    · exact (hE t ht).2

set_option maxHeartbeats 3200000 in
theorem fText_any (c : Cf) (ca : Option Addr) (cc : Nat) (f : Fr) (a : Option Addr) (cap : Nat) (w : World) (hE : RowT w a f.E) (hl : f.E.length ≤ 1000) (h1 : inI f.K) (h2 : inI f.R) (h3 : inI f.S) (h4 : inI f.P.K) (h5 : inI f.P.V) :
    Calls Try.prog 49 #[.agg #[.int .i64 c.N, .int .i64 c.Pi, .int .i64 c.E, .int .i64 c.G, .int .i64 c.F, .slice ca c.P.length cc], .agg #[.int .i64 f.K, .int .i64 f.R, .int .i64 f.S, .int .i64 f.P.K, .int .i64 f.P.V, .slice a f.E.length cap]] w fun e w' => e = .returned (.string ⟨(textF f).toArray⟩) ∧ Below w.heap.size w w' := by
  have hin := numsF_in f h1 h2 h3 h4 h5 hE.2.1
  have hlen : (numsF f).length ≤ 2005 := by rw [numsF_len]; omega
  have HT := Lib.hid (show wrapL (wrN (numsF f) (numsF f).length) = textF f by rw [wrN_all]; rfl)
  have HA := Lib.hid (show allBits (wrN (numsF f) (numsF f).length) by rw [wrN_all]; exact frBits_all f)
  have HN := Lib.hid (fun W (h : RowT W a f.E) => fnumbersOf_any f a cap W h hl)
  generalize numsF f = zs at *
  have hB0 : Below w.heap.size w ((w.alloc (.cells #[.int .i64 c.N, .int .i64 c.Pi, .int .i64 c.E, .int .i64 c.G, .int .i64 c.F, .slice ca c.P.length cc] 24)).alloc (.cells #[.int .i64 f.K, .int .i64 f.R, .int .i64 f.S, .int .i64 f.P.K, .int .i64 f.P.V, .slice a f.E.length cap] 82)) := (alloc_below w _).alloc (by simp) _
  have hK0 : Blk ((w.alloc (.cells #[.int .i64 c.N, .int .i64 c.Pi, .int .i64 c.E, .int .i64 c.G, .int .i64 c.F, .slice ca c.P.length cc] 24)).alloc (.cells #[.int .i64 f.K, .int .i64 f.R, .int .i64 f.S, .int .i64 f.P.K, .int .i64 f.P.V, .slice a f.E.length cap] 82)) (w.heap.size + 1) 82 (frBox f a cap) := Blk.newAt _ _ (by simp)
  go_enter Try.func49, Try.ntmps49
  go_upto_region 1 with fail
  generalize (w.alloc (.cells #[.int .i64 c.N, .int .i64 c.Pi, .int .i64 c.E, .int .i64 c.G, .int .i64 c.F, .slice ca c.P.length cc] 24)).alloc (.cells #[.int .i64 f.K, .int .i64 f.R, .int .i64 f.S, .int .i64 f.P.K, .int .i64 f.P.V, .slice a f.E.length cap] 82) = wb at *
  have hbd := Bd.new wb
  have hB := hB0.alloc hB0.size (.cells #[.pointer none, .slice none 0 0] 94)
  have hK := hK0.alloc (.cells #[.pointer none, .slice none 0 0] 94)
  have hbs : wb.heap.size ≤ (wb.alloc (.cells #[.pointer none, .slice none 0 0] 94)).heap.size := by simp
  have hQ := hK.at
  unfold frBox at hQ
  go_wp2_with fail
  refine (HN.out _ (hE.later hB)).mono ?_
  rintro e wn ⟨v, rfl, hown, hb⟩
  replace hown : OwnI w.heap.size wn v zs := OwnI.weak hown hB.size
  replace hbd := hbd.later hb
  replace hB := hB.trans (hb.mono hB.size)
  have hbn : wb.heap.size ≤ wn.heap.size := Nat.le_trans hbs hb.size
  have hwb := hB0.size
  clear hQ hK hK0 hB0 hbs hb HN
  obtain ⟨av, cv, rfl⟩ := hown.form
  generalize wb.heap.size = b at *
  go_wp2
  go_loopw [6, 7, 11] (fun _ _ i w' => WriteAt zs (.slice av zs.length cv) b w i w') (fun _ _ i _ => zs.length - (intOf i).toNat)
  case atStart => exact ⟨0, Nat.zero_le _, rfl, hbd, hown, hB, hbn⟩
  case round =>
    clear hbd hown hB hbn
    obtain ⟨k, hk, rfl, hbd, hown, hB, hbn⟩ := hrel
    by_cases hlt : k < zs.length
    · have d1 : decide (k < zs.length) = true := by simpa using hlt
      obtain ⟨rb, off, hav, hbl, c1, _, _⟩ := (hown.row (by omega) hin).get k hlt
      have hzk : zs.getD k 0 = zs[k] := by rw [List.getD_eq_getElem?_getD, List.getElem?_eq_getElem hlt]; rfl
      have HS := Lib.hid (show wrN zs (k + 1) = wrN zs k ++ bitsI zs[k] (szN k : Nat) by
        have hs := szN_range k
        rw [wrN_succ, hzk, bitsI_of zs[k] (szN k) hs.1 (by omega)])
      have hwl := wrN_len zs k
      have hbi := bitsI_len zs[k] (szN k : Nat)
      have HC := Lib.hid (fun W => fsizeAt_any k W (by omega))
      have HD := Lib.hid (fun W => bits_any zs[k] (szN k : Nat) W)
      clear hzk
      subst hav
      generalize wrN zs k = X at *
      generalize bitsI zs[k] (szN k : Nat) = Y at *
      generalize szN k = sz at *
      generalize zs[k] = z at *
      go_wp2_with fail
      refine (HC.out _).mono ?_
      rintro e wl ⟨rfl, rfl⟩
      go_wp2_with fail
      refine (HD.out _).mono ?_
      rintro e wm ⟨rfl, hb⟩
      replace hbd := hbd.later hb
      replace hown := hown.later hb
      replace hB := hB.trans (hb.mono hB.size)
      have hbm : b ≤ wm.heap.size := Nat.le_trans hbn hb.size
      clear hb c1
      have HW := Lib.hid (bwrite_any b b X Y wm hbd (by omega) hbm)
      go_wp2_with fail
      refine HW.out.mono ?_
      rintro e wo ⟨⟨n, rfl⟩, hbd2, hb, hkp⟩
      go_wp2
      go_roundw
      case rel => exact ⟨k + 1, by omega, by go_num, by rw [HS.out]; exact hbd2, hown.kp hkp hbd.box, hB.trans (hb.mono hwb), Nat.le_trans hbm hb.size⟩
      case measure => simp [intOf]; omega
    · have d1 : decide (k < zs.length) = false := by simpa using hlt
      obtain rfl : k = zs.length := by omega
      have hwl := wrN_len zs zs.length
      have hwl2 : (wrN zs zs.length).length ≤ 1048000 := by omega
      have HS := Lib.hid (bstring_any b b (wrN zs zs.length) wr hbd hbn)
      have HW := Lib.hid (fun W => cwrap_any (wrN zs zs.length) W hwl2 HA.out)
      rw [HT.out] at HW
      clear hwl hwl2 HA HT
      generalize wrN zs zs.length = X at *
      go_wp2_with fail
      refine HS.out.mono ?_
      rintro e wm ⟨rfl, hb⟩
      replace hB := hB.trans (hb.mono hwb)
      go_wp2_with fail
      refine (HW.out _).mono ?_
      rintro e wo ⟨rfl, hb2⟩
      go_wp2
      go_ret
      exact ⟨rfl, hB.trans (hb2.mono hB.size)⟩

end Go.Proofs.Ytbghpkdkfbpmeaa

/-
  FrameTurn's walk.
-/
import Derived.Test.YtafcjdcmbklfkaaLaw53
namespace Go.Proofs.Ytafcjdcmbklfkaa
open Go.RowKit Plait
set_option linter.unusedVariables false

/-- The tail turned: it is not whole. -/
theorem tail_refused (g : Fr) (d : Cf) : readF d (turn (textF g) ((textF g).length - 1)) = (zeroF, 4) := by
  have hl : (textF g).length = (wrapB (frBits g)).length + 1 := by rw [textF, wrapL_eq]; simp
  have e : turn (textF g) (((textF g).length : Int) - 1) = wrapB (frBits g) ++ [48] := by
    unfold turn
    rw [if_pos (by omega), hl, show ((((wrapB (frBits g)).length + 1 : Nat) : Int) - 1).toNat = (wrapB (frBits g)).length by omega]
    unfold textF
    rw [wrapL_eq]
    simp [other]
  have hb : allBits (wrapB (frBits g) ++ [48]) := by
    intro c hc
    rcases List.mem_append.1 hc with h | h
    · exact wrapB_bits _ (frBits_all g) c h
    · simp at h; rw [h]; rfl
  unfold readF
  rw [e]
  unfold openP
  rw [if_pos (bits_not_whole _ hb)]
  rfl

theorem turn_twice0 (S : List UInt8) (k : Nat) (hk : k < S.length) (h : other (other S[k]) = S[k]) : turn (turn S k) k = S := by
  rw [turn_in _ k (by rw [turn_in S k hk]; simpa using hk)]
  simp only [turn_in S k hk, List.getElem_set_self, List.set_set, h, List.set_getElem_self]

theorem turn_twice (g : Fr) (i : Nat) (h : i + 1 < (textF g).length) : turn (turn (textF g) (i : Int)) (i : Int) = textF g := by
  have hb : bitB ((textF g).getD i 0) = true := by
    have hl : i < (wrapB (frBits g)).length := by
      have : (textF g).length = (wrapB (frBits g)).length + 1 := by rw [textF, wrapL_eq]; simp
      omega
    have : (textF g).getD i 0 = (wrapB (frBits g))[i] := by
      unfold textF
      rw [wrapL_eq, List.getD_eq_getElem?_getD, List.getElem?_append_left hl, List.getElem?_eq_getElem hl]
      rfl
    rw [this]
    exact wrapB_bits _ (frBits_all g) _ (List.getElem_mem hl)
  have hlt : i < (textF g).length := by omega
  refine turn_twice0 (textF g) i hlt ?_
  rw [List.getD_eq_getElem?_getD, List.getElem?_eq_getElem hlt] at hb
  simp only [Option.getD_some] at hb
  unfold bitB at hb
  unfold other
  rcases (by simpa using hb : (textF g)[i] = 48 ∨ (textF g)[i] = 49) with e | e <;> rw [e] <;> rfl

attribute [local irreducible] World.alloc World.drew World.setCell

set_option maxHeartbeats 6400000 in
theorem frameTurn_walk (c : Cf) (a : Option Addr) (cap : Nat) (f : Fr) (fa : Option Addr) (fc : Nat) (na : Option Addr) (ns : List Int) (nc : Nat) (at_ bt : Int) (w : World) (hrow : Row w a c.P) (iN : inI c.N) (iP : inI c.Pi) (iE : inI c.E) (iG : inI c.G) (iF : inI c.F)
    (hfE : RowT w fa f.E) (iK : inI f.K) (iR : inI f.R) (iS : inI f.S) (iQ : inI f.P.K) (iV : inI f.P.V) (hns : Row w na ns) (at1 : -9223372036854775808 ≤ at_) (at2 : at_ ≤ 9223372036854775807) (bt1 : -9223372036854775808 ≤ bt) (bt2 : bt ≤ 9223372036854775807) :
    Calls Try.prog 12 #[.agg #[.int .i64 c.N, .int .i64 c.Pi, .int .i64 c.E, .int .i64 c.G, .int .i64 c.F, .slice a c.P.length cap], .agg #[.int .i64 f.K, .int .i64 f.R, .int .i64 f.S, .int .i64 f.P.K, .int .i64 f.P.V, .slice fa f.E.length fc], .slice na ns.length nc, .int .i64 at_, .int .i64 bt] w fun e w' => e = .returned (.bool true) ∧ Below w.heap.size w w' := by
  have hB : Below w.heap.size w ((w.alloc (.cells #[.int .i64 c.N, .int .i64 c.Pi, .int .i64 c.E, .int .i64 c.G, .int .i64 c.F, .slice a c.P.length cap] 24)).alloc (.cells #[.int .i64 f.K, .int .i64 f.R, .int .i64 f.S, .int .i64 f.P.K, .int .i64 f.P.V, .slice fa f.E.length fc] 29)) := (alloc_below w _).alloc (by simp) _
  have hC : Blk ((w.alloc (.cells #[.int .i64 c.N, .int .i64 c.Pi, .int .i64 c.E, .int .i64 c.G, .int .i64 c.F, .slice a c.P.length cap] 24)).alloc (.cells #[.int .i64 f.K, .int .i64 f.R, .int .i64 f.S, .int .i64 f.P.K, .int .i64 f.P.V, .slice fa f.E.length fc] 29)) w.heap.size 24 (confBox c a cap) := (Blk.new w _ _).alloc _
  have hF : Blk ((w.alloc (.cells #[.int .i64 c.N, .int .i64 c.Pi, .int .i64 c.E, .int .i64 c.G, .int .i64 c.F, .slice a c.P.length cap] 24)).alloc (.cells #[.int .i64 f.K, .int .i64 f.R, .int .i64 f.S, .int .i64 f.P.K, .int .i64 f.P.V, .slice fa f.E.length fc] 29)) (w.heap.size + 1) 29 (frBox f fa fc) := Blk.newAt _ _ (by simp)
  go_enter Try.func12, Try.ntmps12
  go_wp2_with fail
  refine (known5_any _).mono ?_
  rintro e wn ⟨rfl, hb⟩
  replace hB := hB.trans (hb.mono hB.size)
  replace hC := hC.later hb
  replace hF := hF.later hb
  clear hb
  have qC := hC.at
  unfold confBox at qC
  go_wp2_with fail
  refine (make_any c a cap _ (hrow.later hB)).mono ?_
  rintro e wm ⟨da, dc, rfl, hrd, hfd, hb⟩
  replace hB := hB.trans (hb.mono hB.size)
  replace hF := hF.later hb
  clear hb qC hC hfd
  have hok := makeC_ok c
  generalize makeC c = d at *
  have hD : Blk (wm.alloc (.cells #[.int .i64 d.N, .int .i64 d.Pi, .int .i64 d.E, .int .i64 d.G, .int .i64 d.F, .slice da d.P.length dc] 24)) wm.heap.size 24 (confBox d da dc) := Blk.new wm _ _
  replace hB := hB.alloc hB.size (.cells #[.int .i64 d.N, .int .i64 d.Pi, .int .i64 d.E, .int .i64 d.G, .int .i64 d.F, .slice da d.P.length dc] 24)
  replace hF := hF.alloc (.cells #[.int .i64 d.N, .int .i64 d.Pi, .int .i64 d.E, .int .i64 d.G, .int .i64 d.F, .slice da d.P.length dc] 24)
  replace hrd := hrd.alloc (.cells #[.int .i64 d.N, .int .i64 d.Pi, .int .i64 d.E, .int .i64 d.G, .int .i64 d.F, .slice da d.P.length dc] 24)
  go_upto_region 4 with fail
  generalize wm.alloc (.cells #[.int .i64 d.N, .int .i64 d.Pi, .int .i64 d.E, .int .i64 d.G, .int .i64 d.F, .slice da d.P.length dc] 24) = wn at *
  generalize wm.heap.size = db at *
  have hH0 : HeldDF d da dc db f fa fc w wn := ⟨⟨hB, hD⟩, hF⟩
  have hns0 := (hns.later hB).drew1
  have hokg := makeF_ok d f ns hok
  clear hF hD hrd
  go_cut [12] (fun s wx => s = .string ⟨(textF (makeF d f ns)).toArray⟩ ∧ HeldD d da dc db w wx)
  case first =>
    go_region_held3 (fun W => W.cell? ⟨db, 0, none⟩ = some (.int .i64 d.N) ∧ W.cell? ⟨db, 1, none⟩ = some (.int .i64 d.Pi) ∧ W.cell? ⟨db, 2, none⟩ = some (.int .i64 d.E) ∧ W.cell? ⟨db, 3, none⟩ = some (.int .i64 d.G) ∧ W.cell? ⟨db, 4, none⟩ = some (.int .i64 d.F) ∧ W.cell? ⟨db, 5, none⟩ = some (.slice da d.P.length dc) ∧ W.cell? ⟨w.heap.size + 1, 0, none⟩ = some (.int .i64 f.K) ∧ W.cell? ⟨w.heap.size + 1, 1, none⟩ = some (.int .i64 f.R) ∧ W.cell? ⟨w.heap.size + 1, 2, none⟩ = some (.int .i64 f.S) ∧ W.cell? ⟨w.heap.size + 1, 3, none⟩ = some (.int .i64 f.P.K) ∧ W.cell? ⟨w.heap.size + 1, 4, none⟩ = some (.int .i64 f.P.V) ∧ W.cell? ⟨w.heap.size + 1, 5, none⟩ = some (.slice fa f.E.length fc))
      (first | assumption | exact (hH0.next (Below.refl _ _).drew).cells | exact hH2.cells | exact hH1.cells)
      (first
      | (go_at_call 16; refine (make5_any d da dc f fa fc na ns nc _ hok hns0 iK iR iS iV).mono ?_; rintro e wm ⟨ga, gc, rfl, hrg, hfg, hb1⟩; have hH1 := hH0.next (from_drew hb1))
      | (go_at_call 21; refine (fText_ok d da dc (makeF d f ns) ga gc _ hok hokg hrg).mono ?_; rintro e wt ⟨rfl, hb2⟩; have hH2 := hH1.next hb2))
    all_goals go_wp2_with fail
    all_goals go_meet
    all_goals exact ⟨rfl, hH2.1⟩
  case rest =>
    clear hH0 hns0
    obtain ⟨rfl, hH⟩ := hcut
    have hl := textF_length (makeF d f ns)
    have h15 := (ok_small hok hokg).2.2.2.2.2
    obtain ⟨l, hle⟩ : ∃ l, textF (makeF d f ns) = l := ⟨_, rfl⟩
    have T0 := Lib.hid (readF_text d _ hok hokg)
    have T1 := Lib.hid (fun k h => turn1_refused (makeF d f ns) k h d)
    have T2 := Lib.hid (fun i j hi hj hij => turn2_refused (makeF d f ns) i j h15 hi hj hij d)
    have T3 := Lib.hid (tail_refused (makeF d f ns) d)
    have T4 := Lib.hid (fun i h => turn_twice (makeF d f ns) i h)
    rw [hle] at T0 T1 T2 T3 T4 hl ⊢
    have l1 : 51 ≤ l.length := by omega
    have l2 : l.length ≤ 201 := by omega
    clear hle hl h15 hokg
    generalize makeF d f ns = g at *
    have m1 : (0 : Int) < (l.length : Int) - 1 := by omega
    have m2 : (l.length : Int) - 1 ≤ 1099511627776 := by omega
    go_wp2_with fail
    refine (within5_any at_ _ _ m1 m2).mono ?_
    rintro e wl ⟨rfl, rfl⟩
    have a0 : 0 ≤ at_ % ((l.length : Int) - 1) := Int.emod_nonneg _ (by omega)
    have a1 : at_ % ((l.length : Int) - 1) < (l.length : Int) - 1 := Int.emod_lt_of_pos _ m1
    obtain ⟨i, hi⟩ : ∃ i : Nat, at_ % ((l.length : Int) - 1) = (i : Int) := ⟨(at_ % ((l.length : Int) - 1)).toNat, by omega⟩
    rw [hi] at a0 a1 ⊢
    clear hi
    go_wp2_with fail
    refine (within5_any bt _ _ m1 m2).mono ?_
    rintro e wl ⟨rfl, rfl⟩
    have b0 : 0 ≤ bt % ((l.length : Int) - 1) := Int.emod_nonneg _ (by omega)
    have b1 : bt % ((l.length : Int) - 1) < (l.length : Int) - 1 := Int.emod_lt_of_pos _ m1
    obtain ⟨j, hj⟩ : ∃ j : Nat, bt % ((l.length : Int) - 1) = (j : Int) := ⟨(bt % ((l.length : Int) - 1)).toNat, by omega⟩
    rw [hj] at b0 b1 ⊢
    clear hj m1 m2
    have HT1 := Lib.hid (fun W => rturn_any l (i : Int) W (by omega))
    obtain ⟨t1, ht1⟩ : ∃ t1, turn l (i : Int) = t1 := ⟨_, rfl⟩
    have E1 := Lib.hid (T1.out i (by omega))
    have ht1l := turn_length l (i : Int)
    rw [ht1] at HT1 E1 ht1l
    have HR1 := Lib.hid (fun W => fRead_to d da dc t1 W hok (by omega) _ _ E1.out)
    go_upto_region 6 with fail
    go_cut [16] (fun s1 wx => s1 = .int .i64 5 ∧ HeldD d da dc db w wx)
    case first =>
      go_region_held3 (fun W => W.cell? ⟨db, 0, none⟩ = some (.int .i64 d.N) ∧ W.cell? ⟨db, 1, none⟩ = some (.int .i64 d.Pi) ∧ W.cell? ⟨db, 2, none⟩ = some (.int .i64 d.E) ∧ W.cell? ⟨db, 3, none⟩ = some (.int .i64 d.G) ∧ W.cell? ⟨db, 4, none⟩ = some (.int .i64 d.F) ∧ W.cell? ⟨db, 5, none⟩ = some (.slice da d.P.length dc))
        (first | assumption | exact hH.drew.cells | exact (hH.alloc _).drew.cells | exact hH2.cells | exact hH1.cells | exact (hH2.alloc _).cells | exact (hH1.alloc _).cells | exact (hH2.set6 hH.new _ _ _ _ _ _).cells | exact (hH2.set6 hH1.new _ _ _ _ _ _).cells)
        (first
        | (go_at_call 26; refine (HT1.out _).mono ?_; rintro e w1 ⟨rfl, hb1⟩; (first | (have hH1 : HeldD d da dc db w w1 := hH.next (from_drew hb1)) | (have hH1 : HeldD d da dc db w w1 := (hH.alloc _).next (from_drew hb1)) | (have hH1 : HeldD d da dc db w w1 := hH.next hb1) | (have hH1 : HeldD d da dc db w w1 := (hH.alloc _).next hb1)); (try have hz1 : Blk w1 wc.heap.size 29 zeroBox := box_since hb1))
        | (go_at_call 22; refine (HR1.out _).mono ?_; rintro e w2 ⟨xa, xc, rfl, hrx, hb2⟩; (first | (have hH2 : HeldD d da dc db w w2 := hH1.next hb2) | (have hH2 : HeldD d da dc db w w2 := (hH1.alloc _).next hb2)); (try have hz2 : Blk w2 wc.heap.size 29 zeroBox := Blk.later hz1 hb2); (try have hy1_2 : Blk w2 w1.heap.size 29 zeroBox := (Blk.new w1 29 zeroBox).later hb2); (try have hzq := hz2.at); (try have hzf := hz2.frozen); (try unfold zeroBox at hzq); (try have hzq := hy1_2.at); (try have hzf := hy1_2.frozen); (try unfold zeroBox at hzq)))
      all_goals go_wp2_with fail
      all_goals go_meet
      all_goals first | exact ⟨rfl, hH2.alloc _⟩ | exact ⟨rfl, hH2.set6 hH.new _ _ _ _ _ _⟩ | exact ⟨rfl, hH2.set6 hH1.new _ _ _ _ _ _⟩
    case rest =>
      clear hH
      obtain ⟨rfl, hH⟩ := hcut
      have HT2 := Lib.hid (fun W => rturn_any t1 (j : Int) W (by omega))
      obtain ⟨t2, ht2⟩ : ∃ t2, turn t1 (j : Int) = t2 := ⟨_, rfl⟩
      have ht2l := turn_length t1 (j : Int)
      obtain ⟨p, e2, E2, he2⟩ : ∃ p e2, readF d t2 = (p, e2) ∧ (e2 = 5 ∨ i = j ∧ e2 = 0) := by
        rw [← ht2, ← ht1]
        by_cases hij : i = j
        · exact ⟨g, 0, by rw [← hij, T4.out i (by omega)]; exact T0.out, .inr ⟨hij, rfl⟩⟩
        · exact ⟨zeroF, 5, T2.out i j (by omega) (by omega) hij, .inl rfl⟩
      rw [ht2] at HT2 ht2l
      have HR2 := Lib.hid (fun W => fRead_to d da dc t2 W hok (by omega) _ _ E2)
      go_upto_region 7 with fail
      go_cut [18] (fun s1 wx => s1 = .int .i64 e2 ∧ HeldD d da dc db w wx)
      case first =>
        go_region_held3 (fun W => W.cell? ⟨db, 0, none⟩ = some (.int .i64 d.N) ∧ W.cell? ⟨db, 1, none⟩ = some (.int .i64 d.Pi) ∧ W.cell? ⟨db, 2, none⟩ = some (.int .i64 d.E) ∧ W.cell? ⟨db, 3, none⟩ = some (.int .i64 d.G) ∧ W.cell? ⟨db, 4, none⟩ = some (.int .i64 d.F) ∧ W.cell? ⟨db, 5, none⟩ = some (.slice da d.P.length dc))
          (first | assumption | exact hH.drew.cells | exact (hH.alloc _).drew.cells | exact hH3.cells | exact hH2.cells | exact hH1.cells | exact (hH3.alloc _).cells | exact (hH2.alloc _).cells | exact (hH1.alloc _).cells | exact (hH3.set6 hH.new _ _ _ _ _ _).cells | exact (hH3.set6 hH1.new _ _ _ _ _ _).cells | exact (hH3.set6 hH2.new _ _ _ _ _ _).cells)
          (first
          | (go_at_call 26; refine (rturn_any _ _ _ (by omega)).mono ?_; (try omega); (first | (rw [ht1]; rintro e w1 ⟨rfl, hb1⟩; (first | (have hH1 : HeldD d da dc db w w1 := hH.next (from_drew hb1)) | (have hH1 : HeldD d da dc db w w1 := (hH.alloc _).next (from_drew hb1)) | (have hH1 : HeldD d da dc db w w1 := hH.next hb1) | (have hH1 : HeldD d da dc db w w1 := (hH.alloc _).next hb1)); (try have hz1 : Blk w1 wc.heap.size 29 zeroBox := box_since hb1)) | (rw [ht2]; rintro e w2 ⟨rfl, hb2⟩; (first | (have hH2 : HeldD d da dc db w w2 := hH1.next hb2) | (have hH2 : HeldD d da dc db w w2 := (hH1.alloc _).next hb2)); (try have hz2 : Blk w2 wc.heap.size 29 zeroBox := Blk.later hz1 hb2); (try have hy1_2 : Blk w2 w1.heap.size 29 zeroBox := (Blk.new w1 29 zeroBox).later hb2))))
          | (go_at_call 22; refine (HR2.out _).mono ?_; rintro e w3 ⟨xa, xc, rfl, hrx, hb3⟩; (first | (have hH3 : HeldD d da dc db w w3 := hH2.next hb3) | (have hH3 : HeldD d da dc db w w3 := (hH2.alloc _).next hb3)); (try have hz3 : Blk w3 wc.heap.size 29 zeroBox := Blk.later hz2 hb3); (try have hy1_3 : Blk w3 w1.heap.size 29 zeroBox := Blk.later hy1_2 hb3); (try have hy2_3 : Blk w3 w2.heap.size 29 zeroBox := (Blk.new w2 29 zeroBox).later hb3); (try have hzq := hz3.at); (try have hzf := hz3.frozen); (try unfold zeroBox at hzq); (try have hzq := hy1_3.at); (try have hzf := hy1_3.frozen); (try unfold zeroBox at hzq); (try have hzq := hy2_3.at); (try have hzf := hy2_3.frozen); (try unfold zeroBox at hzq)))
        all_goals go_wp2_with fail
        all_goals go_meet
        all_goals first | exact ⟨rfl, hH3.alloc _⟩ | exact ⟨rfl, hH3.set6 hH.new _ _ _ _ _ _⟩ | exact ⟨rfl, hH3.set6 hH1.new _ _ _ _ _ _⟩ | exact ⟨rfl, hH3.set6 hH2.new _ _ _ _ _ _⟩
      case rest =>
        clear hH
        obtain ⟨rfl, hH⟩ := hcut
        have HT3 := Lib.hid (fun W => rturn_any l ((l.length : Int) - 1) W (by omega))
        obtain ⟨t3, ht3⟩ : ∃ t3, turn l ((l.length : Int) - 1) = t3 := ⟨_, rfl⟩
        have ht3l := turn_length l ((l.length : Int) - 1)
        rw [ht3] at HT3 T3 ht3l
        have HR3 := Lib.hid (fun W => fRead_to d da dc t3 W hok (by omega) _ _ T3.out)
        have z1 : IntKind.i64.wrap ((l.length : Int) - 1) = (l.length : Int) - 1 := wrap_in _ (by omega) (by omega)
        go_upto_region 8 with fail
        go_cut [20] (fun s1 wx => s1 = .int .i64 4 ∧ HeldD d da dc db w wx)
        case first =>
          go_region_held3 (fun W => W.cell? ⟨db, 0, none⟩ = some (.int .i64 d.N) ∧ W.cell? ⟨db, 1, none⟩ = some (.int .i64 d.Pi) ∧ W.cell? ⟨db, 2, none⟩ = some (.int .i64 d.E) ∧ W.cell? ⟨db, 3, none⟩ = some (.int .i64 d.G) ∧ W.cell? ⟨db, 4, none⟩ = some (.int .i64 d.F) ∧ W.cell? ⟨db, 5, none⟩ = some (.slice da d.P.length dc))
            (first | assumption | exact hH.drew.cells | exact (hH.alloc _).drew.cells | exact hH2.cells | exact hH1.cells | exact (hH2.alloc _).cells | exact (hH1.alloc _).cells | exact (hH2.set6 hH.new _ _ _ _ _ _).cells | exact (hH2.set6 hH1.new _ _ _ _ _ _).cells)
            (first
            | (go_at_call 26; refine (HT3.out _).mono ?_; rintro e w1 ⟨rfl, hb1⟩; (first | (have hH1 : HeldD d da dc db w w1 := hH.next (from_drew hb1)) | (have hH1 : HeldD d da dc db w w1 := (hH.alloc _).next (from_drew hb1)) | (have hH1 : HeldD d da dc db w w1 := hH.next hb1) | (have hH1 : HeldD d da dc db w w1 := (hH.alloc _).next hb1)); (try have hz1 : Blk w1 wc.heap.size 29 zeroBox := box_since hb1))
            | (go_at_call 22; refine (HR3.out _).mono ?_; rintro e w2 ⟨xa, xc, rfl, hrx, hb2⟩; (first | (have hH2 : HeldD d da dc db w w2 := hH1.next hb2) | (have hH2 : HeldD d da dc db w w2 := (hH1.alloc _).next hb2)); (try have hz2 : Blk w2 wc.heap.size 29 zeroBox := Blk.later hz1 hb2); (try have hy1_2 : Blk w2 w1.heap.size 29 zeroBox := (Blk.new w1 29 zeroBox).later hb2); (try have hzq := hz2.at); (try have hzf := hz2.frozen); (try unfold zeroBox at hzq); (try have hzq := hy1_2.at); (try have hzf := hy1_2.frozen); (try unfold zeroBox at hzq)))
          all_goals go_wp2_with fail
          all_goals go_meet
          all_goals first | exact ⟨rfl, hH2.alloc _⟩ | exact ⟨rfl, hH2.set6 hH.new _ _ _ _ _ _⟩ | exact ⟨rfl, hH2.set6 hH1.new _ _ _ _ _ _⟩
        case rest =>
          clear hH
          obtain ⟨rfl, hH⟩ := hcut
          clear HT1 HT2 HT3 HR1 HR2 HR3 E2 T0 T1 T2 T3 T4 ht1 ht2 ht3 ht1l ht2l ht3l z1
          rcases he2 with rfl | ⟨hij, rfl⟩
          · go_wp2
            go_ret
            exact ⟨rfl, hH.1⟩
          · have d1 : ((i : Int) == (j : Int)) = true := by simp [hij]
            clear hij
            go_wp2
            go_ret
            exact ⟨rfl, hH.1⟩

end Go.Proofs.Ytafcjdcmbklfkaa

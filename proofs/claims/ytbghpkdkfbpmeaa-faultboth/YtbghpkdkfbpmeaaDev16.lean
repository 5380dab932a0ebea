/-
  Contracts of package frame, eighth part: Read.
-/
import Derived.Test.YtbghpkdkfbpmeaaDev15
namespace Go.Proofs.Ytbghpkdkfbpmeaa
open Go.RowKit Plait
set_option maxRecDepth 100000
set_option linter.unusedVariables false

theorem open_all (l b : List UInt8) (h : openP l = (b, 0)) : allBits b := by
  unfold openP at h
  split at h
  · simp at h
  · rename_i hw
    split at h
    · simp at h
    · split at h
      · have := (Prod.ext_iff.1 h).1
        simp only at this
        rw [← this]
        exact whole_take l _ (by simpa using hw) (by omega)
      · simp at h

/-- Read's last step: the frame is laid into the result's place. -/
theorem fread_end (f : Fr) (er : Int) (w wr : World) (av : Option Addr) (cv : Nat) (hB : Below w.heap.size w wr) (k2 : Blk wr (w.heap.size + 1) 82 zeroBox)
    (hown : OwnT (w.heap.size + 2) wr (.slice av f.E.length cv) f.E) (hl : f.E.length ≤ 1000000) (hz : ∀ t ∈ f.E, inI t.K ∧ inI t.V) {p : Fr × Int} (hp : p = (f, er)) {a : Act}
    (h4 : a.tmps[4]? = some (.pointer (some ⟨w.heap.size + 1, 0, none⟩)) := by rfl) (h5 : a.tmps[5]? = some (.int .i64 er) := by rfl) (hd : a.defers = [] := by rfl) :
    bodyPost Try.prog Try.f53 (ReadRet p w) Exit.ret a
      ((((((wr.setCell ⟨w.heap.size + 1, 0, none⟩ (.int .i64 f.K)).setCell ⟨w.heap.size + 1, 1, none⟩ (.int .i64 f.R)).setCell ⟨w.heap.size + 1, 2, none⟩ (.int .i64 f.S)).setCell
        ⟨w.heap.size + 1, 3, none⟩ (.int .i64 f.P.K)).setCell ⟨w.heap.size + 1, 4, none⟩ (.int .i64 f.P.V)).setCell ⟨w.heap.size + 1, 5, none⟩ (.slice av f.E.length cv)) := by
  subst hp
  unfold zeroBox at k2
  have kk := ((((((k2.set 0 (.int .i64 f.K)).set 1 (.int .i64 f.R)).set 2 (.int .i64 f.S)).set 3 (.int .i64 f.P.K)).set 4 (.int .i64 f.P.V)).set 5 (.slice av f.E.length cv))
  have hb2 := (((((hB.setCell (p := ⟨w.heap.size + 1, 0, none⟩) (by simp) (.int .i64 f.K)).setCell (p := ⟨w.heap.size + 1, 1, none⟩) (by simp) (.int .i64 f.R)).setCell (p := ⟨w.heap.size + 1, 2, none⟩) (by simp) (.int .i64 f.S)).setCell
    (p := ⟨w.heap.size + 1, 3, none⟩) (by simp) (.int .i64 f.P.K)).setCell (p := ⟨w.heap.size + 1, 4, none⟩) (by simp) (.int .i64 f.P.V)).setCell (p := ⟨w.heap.size + 1, 5, none⟩) (by simp) (.slice av f.E.length cv)
  have ho := (((((hown.far ⟨w.heap.size + 1, 0, none⟩ (.int .i64 f.K) (by simp)).far ⟨w.heap.size + 1, 1, none⟩ (.int .i64 f.R) (by simp)).far ⟨w.heap.size + 1, 2, none⟩ (.int .i64 f.S) (by simp)).far
    ⟨w.heap.size + 1, 3, none⟩ (.int .i64 f.P.K) (by simp)).far ⟨w.heap.size + 1, 4, none⟩ (.int .i64 f.P.V) (by simp)).far ⟨w.heap.size + 1, 5, none⟩ (.slice av f.E.length cv) (by simp)
  generalize (((((wr.setCell _ _).setCell _ _).setCell _ _).setCell _ _).setCell _ _).setCell _ _ = W at *
  have q := kk.at
  simp at q
  refine bodyPost_ret (v := .tuple #[.agg #[.int .i64 f.K, .int .i64 f.R, .int .i64 f.S, .int .i64 f.P.K, .int .i64 f.P.V, .slice av f.E.length cv], .int .i64 er]) (by simp [results, Try.results53, go_sem, h4, h5, q]) hd ⟨av, cv, rfl, ho.row (by omega) hz, ?_, hb2⟩
  intro x hx
  have := (ho.lt x.block (by rw [hx]; rfl)).1
  omega

/-- Read's frame, boxed. -/
theorem fr_boxed {wm : World} {F : Fr} {av : Option Addr} {cv : Nat} : Blk (wm.alloc (.cells #[.int .i64 F.K, .int .i64 F.R, .int .i64 F.S, .int .i64 F.P.K, .int .i64 F.P.V, .slice av F.E.length cv] 82)) wm.heap.size 82 (frBox F av cv) := Blk.new wm _ _

set_option maxHeartbeats 6400000 in
theorem fRead_any (c : Cf) (ca : Option Addr) (cc : Nat) (l : List UInt8) (w : World) (hc : c.Ok) (hs : l.length ≤ 1048576) :
    Calls Try.prog 53 #[.agg #[.int .i64 c.N, .int .i64 c.Pi, .int .i64 c.E, .int .i64 c.G, .int .i64 c.F, .slice ca c.P.length cc], .string ⟨l.toArray⟩] w (ReadRet (readF c l) w) := by
  obtain ⟨b, er, hbe⟩ : ∃ b e, openP l = (b, e) := ⟨_, _, rfl⟩
  have hbl := open_len l
  rw [hbe] at hbl
  simp only at hbl
  have HO := Lib.hid (fun W => copen_any l W hs)
  have HQ := Lib.hid (show openR l = .tuple #[.string ⟨b.toArray⟩, .int .i64 er] by unfold openR; rw [hbe])
  rw [HQ.out] at HO
  have hB0 : Below w.heap.size w ((w.alloc (.cells #[.int .i64 c.N, .int .i64 c.Pi, .int .i64 c.E, .int .i64 c.G, .int .i64 c.F, .slice ca c.P.length cc] 24)).alloc (.cells zeroBox 82)) := (alloc_below w _).alloc (by simp) _
  have hC0 : Blk ((w.alloc (.cells #[.int .i64 c.N, .int .i64 c.Pi, .int .i64 c.E, .int .i64 c.G, .int .i64 c.F, .slice ca c.P.length cc] 24)).alloc (.cells zeroBox 82)) w.heap.size 24 (confBox c ca cc) := (Blk.new w _ _).alloc _
  have hZ0 : Blk ((w.alloc (.cells #[.int .i64 c.N, .int .i64 c.Pi, .int .i64 c.E, .int .i64 c.G, .int .i64 c.F, .slice ca c.P.length cc] 24)).alloc (.cells zeroBox 82)) (w.heap.size + 1) 82 zeroBox := Blk.newAt _ _ (by simp)
  by_cases he : er = 0
  · subst he
    have HR := Lib.hid (readF_ok c l b hbe)
    have HA := Lib.hid (open_all l b hbe)
    clear hbe HQ
    by_cases h34 : b.length < 34
    · have HF := Lib.hid (show readF c l = (zeroF, 3) by rw [HR.out, readB_cut c b h34])
      have d1 : decide ((b.length : Int) < 34) = true := by simp; omega
      go_enter Try.func53, Try.ntmps53
      go_wp2_with fail
      refine (HO.out _).mono ?_
      rintro e wn ⟨rfl, hb⟩
      have hB := hB0.trans (hb.mono hB0.size)
      have hZ := hZ0.later hb
      have hQ := hZ.at
      have hF := hZ.frozen
      unfold zeroBox at hQ
      go_wp2
      exact fread_end zeroF 3 w wn none 0 hB hZ (OwnT.nil _ _) (by decide) (fun t ht => by simp [zeroF] at ht) HF.out
    · have h34' : (34 : Int) ≤ (b.length : Int) := by omega
      have d1 : decide ((b.length : Int) < 34) = false := by simp; omega
      go_enter Try.func53, Try.ntmps53
      go_wp2_with fail
      refine (HO.out _).mono ?_
      rintro e wn ⟨rfl, hb⟩
      have hH : HeldR c ca cc w wn := HeldR.next ⟨hB0, hC0, hZ0⟩ hb
      clear hb hB0 hC0 hZ0 HO
      go_wp2_with fail
      refine (freadNumbers_any b _ HA.out (by omega)).mono ?_
      rintro e wm ⟨m, hm1, hm2, v, rfl, hown, hb⟩
      replace hH := hH.next hb
      clear hb
      have hm5 := (cnt_of b.length m (by omega) hm1 hm2).1
      have hmg := off_ge m
      have HN := Lib.hid (frN_nums b HA.out m (by omega) hm1 hm2)
      have hin := numsOf_in b m
      have hll : (numsOf b m).length = m := numsOf_len b m
      obtain ⟨g, cv, cur, rfl, hg, hgb, hcap, hmax, _⟩ : ∃ g cap cur, v = .slice (some ⟨g, 0, none⟩) (numsOf b m).length cap ∧ wn.heap.size ≤ g ∧ wm.heap[g]? = some (.cells cur 3 (0, 0)) ∧ (numsOf b m).length ≤ cap ∧ cap ≤ maxLen ∧ True := by
        rcases hown.2 with ⟨_, h0⟩ | ⟨g, cap, cur, h1, h2, h3, h4, h5, _⟩
        · omega
        · exact ⟨g, cap, cur, h1, h2, h3, h4, h5, trivial⟩
      have hrow := hown.row (by omega) hin
      have h5 : 5 ≤ (numsOf b m).length := by omega
      have h6 : (numsOf b m).length ≤ 600000 := by omega
      have HFo := Lib.hid (fframeOf_any g (numsOf b m) cv wm hrow h5 hcap h6 hmax)
      rw [HN.out] at HFo
      have hsz2 : w.heap.size + 2 ≤ wm.heap.size := hH.2.2.lt
      clear hll hcap hmax hgb hg hown hrow hin h5 h6 hmg hm5 hm1 hm2 HN
      generalize (numsOf b m).length = nl at *
      obtain ⟨q, hq⟩ : ∃ q, (b.length - 34) / 10 = q := ⟨_, rfl⟩
      have hqb : q ≤ 110000 := by omega
      have HRl := Lib.hid (fun h2 => readB_long c b h34 h2)
      have HRc := Lib.hid (fun h2 e he h3 => readB_check c b h34 h2 e he h3)
      have HRo := Lib.hid (fun h2 he => readB_ok c b h34 h2 he)
      rw [hq] at HFo HRc HRo
      obtain ⟨F, hF⟩ : ∃ F, (frOf b).with (itsOf (b.drop 34) q) = F := ⟨_, rfl⟩
      have hFK : (frOf b).K = F.K := by rw [← hF]; rfl
      have hFS : (frOf b).S = F.S := by rw [← hF]; rfl
      have hFE : F.E = itsOf (b.drop 34) q := by rw [← hF]; rfl
      have hEl : F.E.length ≤ 110000 := by rw [hFE, itsOf_len]; omega
      have hEin : ∀ t ∈ F.E, inI t.K ∧ inI t.V := by rw [hFE]; exact itsOf_in _ _
      rw [hF] at HFo HRc HRo
      rw [hFK, hFS] at HRl HRc HRo
      clear hF hFK hFS hFE hq
      have he : 0 ≤ echoI c F.K F.S ∧ echoI c F.K F.S ≤ 15 := by
        have := hc.n6; have := hc.n12; have := hc.len
        unfold echoI slotsI
        split <;> omega
      obtain ⟨he0, he1⟩ := he
      go_wp2_with fail
      refine HFo.out.mono ?_
      rintro e wo ⟨av, cv2, rfl, hown, hb⟩
      replace hH := hH.next hb
      replace hown := hown.weak (show w.heap.size + 2 ≤ wm.heap.size + 1 by omega)
      clear hb HFo
      have hK : Blk (wo.alloc (.cells #[.int .i64 F.K, .int .i64 F.R, .int .i64 F.S, .int .i64 F.P.K, .int .i64 F.P.V, .slice av F.E.length cv2] 82)) wo.heap.size 82 (frBox F av cv2) := Blk.new wo _ _
      replace hH := hH.next (alloc_below wo (.cells #[.int .i64 F.K, .int .i64 F.R, .int .i64 F.S, .int .i64 F.P.K, .int .i64 F.P.V, .slice av F.E.length cv2] 82))
      replace hown := hown.later (alloc_below wo (.cells #[.int .i64 F.K, .int .i64 F.R, .int .i64 F.S, .int .i64 F.P.K, .int .i64 F.P.V, .slice av F.E.length cv2] 82))
      go_upto_region 7 with fail
      generalize wo.alloc (.cells #[.int .i64 F.K, .int .i64 F.R, .int .i64 F.S, .int .i64 F.P.K, .int .i64 F.P.V, .slice av F.E.length cv2] 82) = wp at *
      generalize wo.heap.size = G at *
      have q1 := hH.2.1.at
      unfold confBox at q1
      have q3 := hK.at
      unfold frBox at q3
      go_wp2_with fail
      refine (fechoes_any c ca cc F av cv2 _ hc).mono ?_
      rintro e wq ⟨rfl, hb⟩
      replace hH := hH.next hb
      replace hK := hK.later hb
      replace hown := hown.later hb
      clear hb q1 q3
      generalize echoI c F.K F.S = en at *
      by_cases hL : (b.length : Int) - 34 = 10 * en
      · have d2 : ((b.length : Int) != 34 + 10 * en) = false := by simp; omega
        replace HRc := Lib.hid (HRc.out hL)
        replace HRo := Lib.hid (HRo.out hL)
        clear hL HRl
        have q1 := hH.2.1.at
        unfold confBox at q1
        have q3 := hK.at
        unfold frBox at q3
        have hrT := hown.row (by omega) hEin
        have HCk := Lib.hid (fCheck_any c ca cc F av cv2 wq hc hrT)
        cases hce : (checkF c F == 0)
        · have hce' : checkF c F ≠ 0 := by simpa using hce
          have HF := Lib.hid (HR.out.trans (HRc.out _ rfl hce'))
          have d3 : (checkF c F != 0) = true := by rw [bne, hce]; rfl
          clear hce hce' HRc HRo HR
          generalize checkF c F = er at *
          go_wp2_with fail
          refine HCk.out.mono ?_
          rintro e wr ⟨rfl, hb⟩
          replace hH := hH.next hb
          have hQ := hH.2.2.at
          have hfz := hH.2.2.frozen
          unfold zeroBox at hQ
          clear q1 q3
          go_wp2
          exact fread_end zeroF er w wr none 0 hH.1 hH.2.2 (OwnT.nil _ _) (by decide) (fun t ht => by simp [zeroF] at ht) HF.out
        · have hce' : checkF c F = 0 := by simpa using hce
          have HF := Lib.hid (HR.out.trans (HRo.out hce'))
          rw [hce'] at HCk
          clear hce hce' HRc HRo HR
          go_wp2_with fail
          refine HCk.out.mono ?_
          rintro e wr ⟨rfl, hb⟩
          replace hH := hH.next hb
          replace hK := hK.later hb
          replace hown := hown.later hb
          have hQ := hH.2.2.at
          have hfz := hH.2.2.frozen
          unfold zeroBox at hQ
          clear q1 q3
          have q3 := hK.at
          unfold frBox at q3
          go_wp2
          exact fread_end F 0 w wr av cv2 hH.1 hH.2.2 hown (by omega) hEin HF.out
      · have d2 : ((b.length : Int) != 34 + 10 * en) = true := by simp; omega
        have HF := Lib.hid (HR.out.trans (HRl.out hL))
        have hQ := hH.2.2.at
        have hfz := hH.2.2.frozen
        unfold zeroBox at hQ
        go_wp2
        exact fread_end zeroF 2 w wq none 0 hH.1 hH.2.2 (OwnT.nil _ _) (by decide) (fun t ht => by simp [zeroF] at ht) HF.out
  · have HF := Lib.hid (readF_err c l b er hbe he)
    have d1 : (er != 0) = true := by simpa using he
    clear he hbe HQ
    go_enter Try.func53, Try.ntmps53
    go_wp2_with fail
    refine (HO.out _).mono ?_
    rintro e wn ⟨rfl, hb⟩
    have hB := hB0.trans (hb.mono hB0.size)
    have hZ := hZ0.later hb
    have hQ := hZ.at
    have hF := hZ.frozen
    unfold zeroBox at hQ
    go_wp2
    exact fread_end zeroF er w wn none 0 hB hZ (OwnT.nil _ _) (by decide) (fun t ht => by simp [zeroF] at ht) HF.out

end Go.Proofs.Ytbghpkdkfbpmeaa

/-
  Contracts of package frame, eighth part: Read.
-/
import Derived.Test.YtbghpkdkfbpmeaaGreatK8
import Derived.Test.YtbghpkdkfbpmeaaGreatK1
import Derived.Test.YtbghpkdkfbpmeaaGreatRows
import Derived.ProofKit
import Derived.OpenShut
import Derived.ShutString
import Derived.ChangeOld
import Derived.Lib.SmallJoins
namespace Go.Proofs.YtbghpkdkfbpmeaaGreat
open Go.RowKit Plait
set_option maxRecDepth 100000
set_option linter.unusedVariables false

theorem open_all (l b : List UInt8) (h : openP l = (b, 0)) : allBits b := by
  unfold openP at h
  split at h
  · simp at h
  · rename_i hw
    split at h
    · simp at h
    · split at h
      · have := (Prod.ext_iff.1 h).1
        simp only at this
        rw [← this]
        exact whole_take l _ (by simpa using hw) (by omega)
      · simp at h

/-- Read's last step: the frame is laid into the result's place. -/
theorem fread_end (f : Fr) (er : Int) (w wr : World) (av : Option Addr) (cv : Nat) (hB : Below w.heap.size w wr) (k2 : Blk wr (w.heap.size + 1) 32 zeroBox)
    (hown : OwnT (w.heap.size + 2) wr (.slice av f.E.length cv) f.E) (hl : f.E.length ≤ 1000000) (hz : ∀ t ∈ f.E, inI t.K ∧ inI t.V) {p : Fr × Int} (hp : p = (f, er)) {a : Act}
    (h4 : a.tmps[4]? = some (.pointer (some ⟨w.heap.size + 1, 0, none⟩)) := by rfl) (h5 : a.tmps[5]? = some (.int .i64 er) := by rfl) (hd : a.defers = [] := by rfl) :
    bodyPost Tryz.prog Tryz.f68 (ReadRet p w) Exit.ret a
      ((((((wr.setCell ⟨w.heap.size + 1, 0, none⟩ (.int .i64 f.K)).setCell ⟨w.heap.size + 1, 1, none⟩ (.int .i64 f.R)).setCell ⟨w.heap.size + 1, 2, none⟩ (.int .i64 f.S)).setCell
        ⟨w.heap.size + 1, 3, none⟩ (.int .i64 f.P.K)).setCell ⟨w.heap.size + 1, 4, none⟩ (.int .i64 f.P.V)).setCell ⟨w.heap.size + 1, 5, none⟩ (.slice av f.E.length cv)) := by
  subst hp
  unfold zeroBox at k2
  have kk := ((((((k2.set 0 (.int .i64 f.K)).set 1 (.int .i64 f.R)).set 2 (.int .i64 f.S)).set 3 (.int .i64 f.P.K)).set 4 (.int .i64 f.P.V)).set 5 (.slice av f.E.length cv))
  have hb2 := (((((hB.setCell (p := ⟨w.heap.size + 1, 0, none⟩) (by simp) (.int .i64 f.K)).setCell (p := ⟨w.heap.size + 1, 1, none⟩) (by simp) (.int .i64 f.R)).setCell (p := ⟨w.heap.size + 1, 2, none⟩) (by simp) (.int .i64 f.S)).setCell
    (p := ⟨w.heap.size + 1, 3, none⟩) (by simp) (.int .i64 f.P.K)).setCell (p := ⟨w.heap.size + 1, 4, none⟩) (by simp) (.int .i64 f.P.V)).setCell (p := ⟨w.heap.size + 1, 5, none⟩) (by simp) (.slice av f.E.length cv)
  have ho := (((((hown.far ⟨w.heap.size + 1, 0, none⟩ (.int .i64 f.K) (by simp)).far ⟨w.heap.size + 1, 1, none⟩ (.int .i64 f.R) (by simp)).far ⟨w.heap.size + 1, 2, none⟩ (.int .i64 f.S) (by simp)).far
    ⟨w.heap.size + 1, 3, none⟩ (.int .i64 f.P.K) (by simp)).far ⟨w.heap.size + 1, 4, none⟩ (.int .i64 f.P.V) (by simp)).far ⟨w.heap.size + 1, 5, none⟩ (.slice av f.E.length cv) (by simp)
  generalize (((((wr.setCell _ _).setCell _ _).setCell _ _).setCell _ _).setCell _ _).setCell _ _ = W at *
  have q := kk.at
  simp at q
  refine bodyPost_ret (v := .tuple #[.agg #[.int .i64 f.K, .int .i64 f.R, .int .i64 f.S, .int .i64 f.P.K, .int .i64 f.P.V, .slice av f.E.length cv], .int .i64 er]) (by simp [results, Tryz.results68, go_sem, h4, h5, q]) hd ⟨av, cv, rfl, ho.row (by omega) hz, ?_, hb2⟩
  intro x hx
  have := (ho.lt x.block (by rw [hx]; rfl)).1
  omega

/-- Read's frame, boxed. -/
theorem fr_boxed {wm : World} {F : Fr} {av : Option Addr} {cv : Nat} : Blk (wm.alloc (.cells #[.int .i64 F.K, .int .i64 F.R, .int .i64 F.S, .int .i64 F.P.K, .int .i64 F.P.V, .slice av F.E.length cv] 32)) wm.heap.size 32 (frBox F av cv) := Blk.new wm _ _

set_option maxHeartbeats 6400000 in
theorem fRead_any (c : Cf) (ca : Option Addr) (cc : Nat) (l : List UInt8) (w : World) (hc : c.Ok) (hs : l.length ≤ 1048576) :
    Calls Tryz.prog 68 #[.agg #[.int .i64 c.N, .int .i64 c.Pi, .int .i64 c.E, .int .i64 c.G, .int .i64 c.F, .slice ca c.P.length cc], .string ⟨l.toArray⟩] w (ReadRet (readF c l) w) := by
  obtain ⟨b, er, hbe⟩ : ∃ b e, openP l = (b, e) := ⟨_, _, rfl⟩
  have hbl := open_len l
  rw [hbe] at hbl
  simp only at hbl
  have HO := Lib.hid (fun W => copen_any l W hs)
  have HQ := Lib.hid (show openR l = .tuple #[.string ⟨b.toArray⟩, .int .i64 er] by unfold openR; rw [hbe])
  rw [HQ.out] at HO
  have hB0 : Below w.heap.size w ((w.alloc (.cells #[.int .i64 c.N, .int .i64 c.Pi, .int .i64 c.E, .int .i64 c.G, .int .i64 c.F, .slice ca c.P.length cc] 24)).alloc (.cells zeroBox 32)) := (alloc_below w _).alloc (by simp) _
  have hC0 : Blk ((w.alloc (.cells #[.int .i64 c.N, .int .i64 c.Pi, .int .i64 c.E, .int .i64 c.G, .int .i64 c.F, .slice ca c.P.length cc] 24)).alloc (.cells zeroBox 32)) w.heap.size 24 (confBox c ca cc) := (Blk.new w _ _).alloc _
  have hZ0 : Blk ((w.alloc (.cells #[.int .i64 c.N, .int .i64 c.Pi, .int .i64 c.E, .int .i64 c.G, .int .i64 c.F, .slice ca c.P.length cc] 24)).alloc (.cells zeroBox 32)) (w.heap.size + 1) 32 zeroBox := Blk.newAt _ _ (by simp)
  by_cases he : er = 0
  · subst he
    have HR := Lib.hid (readF_ok c l b hbe)
    have HA := Lib.hid (open_all l b hbe)
    clear hbe HQ
    by_cases h34 : b.length < 34
    · have HF := Lib.hid (show readF c l = (zeroF, 3) by rw [HR.out, readB_cut c b h34])
      have d1 : decide ((b.length : Int) < 34) = true := by simp; omega
      go_enter Tryz.func68, Tryz.ntmps68
      go_wp2_with fail
      refine (HO.out _).mono ?_
      rintro e wn ⟨rfl, hb⟩
      have hB := hB0.trans (hb.mono hB0.size)
      have hZ := hZ0.later hb
      have hQ := hZ.at
      have hF := hZ.frozen
      unfold zeroBox at hQ
      go_wp2
      exact fread_end zeroF 3 w wn none 0 hB hZ (OwnT.nil _ _) (by decide) (fun t ht => by simp [zeroF] at ht) HF.out
    · have h34' : (34 : Int) ≤ (b.length : Int) := by omega
      have d1 : decide ((b.length : Int) < 34) = false := by simp; omega
      go_enter Tryz.func68, Tryz.ntmps68
      go_wp2_with fail
      refine (HO.out _).mono ?_
      rintro e wn ⟨rfl, hb⟩
      have hH : HeldR c ca cc w wn := HeldR.next ⟨hB0, hC0, hZ0⟩ hb
      clear hb hB0 hC0 hZ0 HO
      go_wp2_with fail
      refine (freadNumbers_any b _ HA.out (by omega)).mono ?_
      rintro e wm ⟨m, hm1, hm2, v, rfl, hown, hb⟩
      replace hH := hH.next hb
      clear hb
      have hm5 := (cnt_of b.length m (by omega) hm1 hm2).1
      have hmg := off_ge m
      have HN := Lib.hid (frN_nums b HA.out m (by omega) hm1 hm2)
      have hin := numsOf_in b m
      have hll : (numsOf b m).length = m := numsOf_len b m
      obtain ⟨g, cv, cur, rfl, hg, hgb, hcap, hmax, _⟩ : ∃ g cap cur, v = .slice (some ⟨g, 0, none⟩) (numsOf b m).length cap ∧ wn.heap.size ≤ g ∧ wm.heap[g]? = some (.cells cur 3 (0, 0)) ∧ (numsOf b m).length ≤ cap ∧ cap ≤ maxLen ∧ True := by
        rcases hown.2 with ⟨_, h0⟩ | ⟨g, cap, cur, h1, h2, h3, h4, h5, _⟩
        · omega
        · exact ⟨g, cap, cur, h1, h2, h3, h4, h5, trivial⟩
      have hrow := hown.row (by omega) hin
      have h5 : 5 ≤ (numsOf b m).length := by omega
      have h6 : (numsOf b m).length ≤ 600000 := by omega
      have HFo := Lib.hid (fframeOf_any g (numsOf b m) cv wm hrow h5 hcap h6 hmax)
      rw [HN.out] at HFo
      have hsz2 : w.heap.size + 2 ≤ wm.heap.size := hH.2.2.lt
      clear hll hcap hmax hgb hg hown hrow hin h5 h6 hmg hm5 hm1 hm2 HN
      generalize (numsOf b m).length = nl at *
      obtain ⟨q, hq⟩ : ∃ q, (b.length - 34) / 10 = q := ⟨_, rfl⟩
      have hqb : q ≤ 110000 := by omega
      have HRl := Lib.hid (fun h2 => readB_long c b h34 h2)
      have HRc := Lib.hid (fun h2 e he h3 => readB_check c b h34 h2 e he h3)
      have HRo := Lib.hid (fun h2 he => readB_ok c b h34 h2 he)
      rw [hq] at HFo HRc HRo
      obtain ⟨F, hF⟩ : ∃ F, (frOf b).with (itsOf (b.drop 34) q) = F := ⟨_, rfl⟩
      have hFK : (frOf b).K = F.K := by rw [← hF]; rfl
      have hFS : (frOf b).S = F.S := by rw [← hF]; rfl
      have hFE : F.E = itsOf (b.drop 34) q := by rw [← hF]; rfl
      have hEl : F.E.length ≤ 110000 := by rw [hFE, itsOf_len]; omega
      have hEin : ∀ t ∈ F.E, inI t.K ∧ inI t.V := by rw [hFE]; exact itsOf_in _ _
      rw [hF] at HFo HRc HRo
      rw [hFK, hFS] at HRl HRc HRo
      clear hF hFK hFS hFE hq
      have he : 0 ≤ echoI c F.K F.S ∧ echoI c F.K F.S ≤ 15 := by
        have := hc.n6; have := hc.n12; have := hc.len
        unfold echoI slotsI
        split <;> omega
      obtain ⟨he0, he1⟩ := he
      go_wp2_with fail
      refine HFo.out.mono ?_
      rintro e wo ⟨av, cv2, rfl, hown, hb⟩
      replace hH := hH.next hb
      replace hown := hown.weak (show w.heap.size + 2 ≤ wm.heap.size + 1 by omega)
      clear hb HFo
      have hK : Blk (wo.alloc (.cells #[.int .i64 F.K, .int .i64 F.R, .int .i64 F.S, .int .i64 F.P.K, .int .i64 F.P.V, .slice av F.E.length cv2] 32)) wo.heap.size 32 (frBox F av cv2) := Blk.new wo _ _
      replace hH := hH.next (alloc_below wo (.cells #[.int .i64 F.K, .int .i64 F.R, .int .i64 F.S, .int .i64 F.P.K, .int .i64 F.P.V, .slice av F.E.length cv2] 32))
      replace hown := hown.later (alloc_below wo (.cells #[.int .i64 F.K, .int .i64 F.R, .int .i64 F.S, .int .i64 F.P.K, .int .i64 F.P.V, .slice av F.E.length cv2] 32))
      go_upto_region 7 with fail
      generalize wo.alloc (.cells #[.int .i64 F.K, .int .i64 F.R, .int .i64 F.S, .int .i64 F.P.K, .int .i64 F.P.V, .slice av F.E.length cv2] 32) = wp at *
      generalize wo.heap.size = G at *
      have q1 := hH.2.1.at
      unfold confBox at q1
      have q3 := hK.at
      unfold frBox at q3
      go_wp2_with fail
      refine (fechoes_any c ca cc F av cv2 _ hc).mono ?_
      rintro e wq ⟨rfl, hb⟩
      replace hH := hH.next hb
      replace hK := hK.later hb
      replace hown := hown.later hb
      clear hb q1 q3
      generalize echoI c F.K F.S = en at *
      by_cases hL : (b.length : Int) - 34 = 10 * en
      · have d2 : ((b.length : Int) != 34 + 10 * en) = false := by simp; omega
        replace HRc := Lib.hid (HRc.out hL)
        replace HRo := Lib.hid (HRo.out hL)
        clear hL HRl
        have q1 := hH.2.1.at
        unfold confBox at q1
        have q3 := hK.at
        unfold frBox at q3
        have hrT := hown.row (by omega) hEin
        have HCk := Lib.hid (fCheck_any c ca cc F av cv2 wq hc hrT)
        cases hce : (checkF c F == 0)
        · have hce' : checkF c F ≠ 0 := by simpa using hce
          have HF := Lib.hid (HR.out.trans (HRc.out _ rfl hce'))
          have d3 : (checkF c F != 0) = true := by rw [bne, hce]; rfl
          clear hce hce' HRc HRo HR
          generalize checkF c F = er at *
          go_wp2_with fail
          refine HCk.out.mono ?_
          rintro e wr ⟨rfl, hb⟩
          replace hH := hH.next hb
          have hQ := hH.2.2.at
          have hfz := hH.2.2.frozen
          unfold zeroBox at hQ
          clear q1 q3
          go_wp2
          exact fread_end zeroF er w wr none 0 hH.1 hH.2.2 (OwnT.nil _ _) (by decide) (fun t ht => by simp [zeroF] at ht) HF.out
        · have hce' : checkF c F = 0 := by simpa using hce
          have HF := Lib.hid (HR.out.trans (HRo.out hce'))
          rw [hce'] at HCk
          clear hce hce' HRc HRo HR
          go_wp2_with fail
          refine HCk.out.mono ?_
          rintro e wr ⟨rfl, hb⟩
          replace hH := hH.next hb
          replace hK := hK.later hb
          replace hown := hown.later hb
          have hQ := hH.2.2.at
          have hfz := hH.2.2.frozen
          unfold zeroBox at hQ
          clear q1 q3
          have q3 := hK.at
          unfold frBox at q3
          go_wp2
          exact fread_end F 0 w wr av cv2 hH.1 hH.2.2 hown (by omega) hEin HF.out
      · have d2 : ((b.length : Int) != 34 + 10 * en) = true := by simp; omega
        have HF := Lib.hid (HR.out.trans (HRl.out hL))
        have hQ := hH.2.2.at
        have hfz := hH.2.2.frozen
        unfold zeroBox at hQ
        go_wp2
        exact fread_end zeroF 2 w wq none 0 hH.1 hH.2.2 (OwnT.nil _ _) (by decide) (fun t ht => by simp [zeroF] at ht) HF.out
  · have HF := Lib.hid (readF_err c l b er hbe he)
    have d1 : (er != 0) = true := by simpa using he
    clear he hbe HQ
    go_enter Tryz.func68, Tryz.ntmps68
    go_wp2_with fail
    refine (HO.out _).mono ?_
    rintro e wn ⟨rfl, hb⟩
    have hB := hB0.trans (hb.mono hB0.size)
    have hZ := hZ0.later hb
    have hQ := hZ.at
    have hF := hZ.frozen
    unfold zeroBox at hQ
    go_wp2
    exact fread_end zeroF er w wn none 0 hB hZ (OwnT.nil _ _) (by decide) (fun t ht => by simp [zeroF] at ht) HF.out

end Go.Proofs.YtbghpkdkfbpmeaaGreat
/-
  Contracts of package frame, ninth part: Same.
-/
namespace Go.Proofs.YtbghpkdkfbpmeaaGreat
open Go.RowKit Plait
set_option maxRecDepth 100000
set_option linter.unusedVariables false

end Go.Proofs.YtbghpkdkfbpmeaaGreat
/-
  Contracts of the third laws' own helpers: within, Make.
-/
namespace Go.Proofs.YtbghpkdkfbpmeaaGreat
open Go.RowKit Plait
set_option maxRecDepth 100000
set_option linter.unusedVariables false

theorem within3_any (a n : Int) (w : World) (hn : 0 < n) (hn2 : n ≤ 1099511627776) :
    Calls Tryz.prog 29 #[.int .i64 a, .int .i64 n] w fun e w' => e = .returned (.int .i64 (a % n)) ∧ w = w' := by
  have b1 : 0 ≤ a % n := Int.emod_nonneg _ (by omega)
  have b2 : a % n < n := Int.emod_lt_of_pos _ hn
  by_cases h0 : 0 ≤ a
  · go_enter Tryz.func29, Tryz.ntmps29
    go_wp2
    go_ret
    exact ⟨rfl, rfl⟩
  · have h1 : a.tmod n = -((-a) % n) := by
      rw [show a = -(-a) by omega, Int.neg_tmod, Int.tmod_eq_emod_of_nonneg (by omega)]; simp
    have c1 : 0 ≤ (-a) % n := Int.emod_nonneg _ (by omega)
    have c2 : (-a) % n < n := Int.emod_lt_of_pos _ hn
    by_cases hz : (-a) % n = 0
    · have h2 : a.tmod n = 0 := by rw [h1, hz]; rfl
      have HF := Lib.hid (show (0 : Int) = a % n by
        have : n ∣ -a := Int.dvd_of_emod_eq_zero hz
        exact (Int.emod_eq_zero_of_dvd (Int.dvd_neg.1 this)).symm)
      clear h1 hz c1 c2 b1 b2
      go_enter Tryz.func29, Tryz.ntmps29
      go_wp2
      go_ret
      exact ⟨ret_int HF.out, rfl⟩
    · obtain ⟨r, hr⟩ : ∃ r, r = (-a) % n := ⟨_, rfl⟩
      rw [← hr] at h1 c1 c2 hz
      have HF := Lib.hid (show -r + n = a % n by
        have e := Int.emod_add_mul_ediv (-a) n
        rw [← hr] at e
        have e2 : a = (-r + n) + n * (-((-a) / n) - 1) := by rw [Int.mul_sub, Int.mul_neg]; omega
        rw [e2, Int.add_mul_emod_self_left]
        exact (Int.emod_eq_of_lt (by omega) (by omega)).symm)
      clear hr b1 b2
      go_enter Tryz.func29, Tryz.ntmps29
      go_wp2
      go_ret
      exact ⟨ret_int HF.out, rfl⟩

/-- What a call answers that makes a network. -/
def ConfRet (c : Cf) (w : World) (e : Ending) (w' : World) : Prop :=
  ∃ (a : Option Addr) (cap : Nat), e = .returned (.agg #[.int .i64 c.N, .int .i64 c.Pi, .int .i64 c.E, .int .i64 c.G, .int .i64 c.F, .slice a c.P.length cap]) ∧ Row w' a c.P ∧ (∀ x, a = some x → w.heap.size ≤ x.block) ∧ Below w.heap.size w w'

/-- The same, and that what it holds has room. -/
def ConfRet2 (c : Cf) (w : World) (e : Ending) (w' : World) : Prop :=
  ∃ (a : Option Addr) (cap : Nat), e = .returned (.agg #[.int .i64 c.N, .int .i64 c.Pi, .int .i64 c.E, .int .i64 c.G, .int .i64 c.F, .slice a c.P.length cap]) ∧ Row w' a c.P ∧ (∀ x, a = some x → w.heap.size ≤ x.block) ∧ c.P.length ≤ cap ∧ Below w.heap.size w w'
theorem OwnI.room {base : Nat} {w : World} {a : Option Addr} {n cap : Nat} {zs : List Int} (h : OwnI base w (.slice a n cap) zs) : zs.length ≤ cap := by
  rcases h.2 with ⟨hv, h0⟩ | ⟨g, cap', cur, hv, _, _, hcap, _⟩
  · omega
  · injection hv with _ _ e
    rw [e]
    exact hcap

/-- Where Make's variable g stands: h is the heap's size at the start. -/
def MakeG (c : Cf) (a : Option Addr) (cap : Nat) (w : World) (pi f : Int) (wx : World) : Prop :=
  Below w.heap.size w wx ∧ Blk wx w.heap.size 24 (confBox c a cap) ∧ Blk wx (w.heap.size + 1) 24 #[.int .i64 0, .int .i64 0, .int .i64 0, .int .i64 0, .int .i64 0, .slice none 0 0] ∧
    Blk wx (w.heap.size + 2) 24 #[.int .i64 (6 + c.N % 7), .int .i64 pi, .int .i64 (c.E % 21), .int .i64 (c.G % 21), .int .i64 f, .slice none 0 0]

/-- The loop over the pairs. -/
def MakeL (c : Cf) (a : Option Addr) (cap : Nat) (w : World) (i : Value) (wx : World) : Prop :=
  ∃ (k : Nat) (v : Value), k ≤ c.P.length ∧ k ≤ 3 ∧ i = .int .i64 k ∧ Below w.heap.size w wx ∧ Blk wx w.heap.size 24 (confBox c a cap) ∧ Blk wx (w.heap.size + 1) 24 #[.int .i64 0, .int .i64 0, .int .i64 0, .int .i64 0, .int .i64 0, .slice none 0 0] ∧
    Blk wx (w.heap.size + 2) 24 #[.int .i64 (6 + c.N % 7), .int .i64 (makeC c).Pi, .int .i64 (c.E % 21), .int .i64 (c.G % 21), .int .i64 (makeC c).F, v] ∧ OwnI (w.heap.size + 3) wx v ((makeC c).P.take k)

theorem makeP_get (c : Cf) (k : Nat) (h : k < c.P.length) (h3 : k < 3) : ∃ hk : k < (makeC c).P.length, (makeC c).P[k] = c.P[k] % (6 + c.N % 7 + 1) - 1 := by
  have hk : k < (makeC c).P.length := by simp [makeC]; omega
  exact ⟨hk, by simp [makeC]⟩

theorem makeP_len (c : Cf) : (makeC c).P.length = min 3 c.P.length := by simp [makeC]

/-- Make's last step: g is laid into the result's place. -/
theorem make_end (c : Cf) (w wr : World) (av : Option Addr) (cv : Nat) (hB : Below w.heap.size w wr)
    (k2 : Blk wr (w.heap.size + 1) 24 #[.int .i64 0, .int .i64 0, .int .i64 0, .int .i64 0, .int .i64 0, .slice none 0 0]) (hown : OwnI (w.heap.size + 3) wr (.slice av (makeC c).P.length cv) (makeC c).P) {a : Act}
    (h2 : a.tmps[2]? = some (.pointer (some ⟨w.heap.size + 1, 0, none⟩)) := by rfl) (hd : a.defers = [] := by rfl) :
    bodyPost Tryz.prog Tryz.f7 (ConfRet2 (makeC c) w) Exit.ret a
      ((((((wr.setCell ⟨w.heap.size + 1, 0, none⟩ (.int .i64 (6 + c.N % 7))).setCell ⟨w.heap.size + 1, 1, none⟩ (.int .i64 (makeC c).Pi)).setCell ⟨w.heap.size + 1, 2, none⟩ (.int .i64 (c.E % 21))).setCell
        ⟨w.heap.size + 1, 3, none⟩ (.int .i64 (c.G % 21))).setCell ⟨w.heap.size + 1, 4, none⟩ (.int .i64 (makeC c).F)).setCell ⟨w.heap.size + 1, 5, none⟩ (.slice av (makeC c).P.length cv)) := by
  have kk := ((((((k2.set 0 (.int .i64 (6 + c.N % 7))).set 1 (.int .i64 (makeC c).Pi)).set 2 (.int .i64 (c.E % 21))).set 3 (.int .i64 (c.G % 21))).set 4 (.int .i64 (makeC c).F)).set 5 (.slice av (makeC c).P.length cv))
  have hb2 := (((((hB.setCell (p := ⟨w.heap.size + 1, 0, none⟩) (by simp) (.int .i64 (6 + c.N % 7))).setCell (p := ⟨w.heap.size + 1, 1, none⟩) (by simp) (.int .i64 (makeC c).Pi)).setCell (p := ⟨w.heap.size + 1, 2, none⟩) (by simp) (.int .i64 (c.E % 21))).setCell
    (p := ⟨w.heap.size + 1, 3, none⟩) (by simp) (.int .i64 (c.G % 21))).setCell (p := ⟨w.heap.size + 1, 4, none⟩) (by simp) (.int .i64 (makeC c).F)).setCell (p := ⟨w.heap.size + 1, 5, none⟩) (by simp) (.slice av (makeC c).P.length cv)
  have ho := (((((hown.far ⟨w.heap.size + 1, 0, none⟩ (.int .i64 (6 + c.N % 7)) (by simp)).far ⟨w.heap.size + 1, 1, none⟩ (.int .i64 (makeC c).Pi) (by simp)).far ⟨w.heap.size + 1, 2, none⟩ (.int .i64 (c.E % 21)) (by simp)).far
    ⟨w.heap.size + 1, 3, none⟩ (.int .i64 (c.G % 21)) (by simp)).far ⟨w.heap.size + 1, 4, none⟩ (.int .i64 (makeC c).F) (by simp)).far ⟨w.heap.size + 1, 5, none⟩ (.slice av (makeC c).P.length cv) (by simp)
  generalize (((((wr.setCell _ _).setCell _ _).setCell _ _).setCell _ _).setCell _ _).setCell _ _ = W at *
  have q := kk.at
  simp at q
  refine bodyPost_ret (v := .agg #[.int .i64 (makeC c).N, .int .i64 (makeC c).Pi, .int .i64 (makeC c).E, .int .i64 (makeC c).G, .int .i64 (makeC c).F, .slice av (makeC c).P.length cv]) (by simp [results, Tryz.results7, go_sem, h2, q, makeC]) hd ⟨av, cv, rfl, ho.row ?_ ?_, ?_, ho.room, hb2⟩
  · have := (makeC_ok c).len
    omega
  · intro z hz
    have := (makeC_ok c).all z hz
    have := (makeC_ok c).n12
    omega
  · intro x hx
    have := (ho.lt x.block (by rw [hx]; rfl)).1
    omega

set_option maxHeartbeats 1600000 in
theorem make_any2 (c : Cf) (a : Option Addr) (cap : Nat) (w : World) (hrow : Row w a c.P) :
    Calls Tryz.prog 7 #[.agg #[.int .i64 c.N, .int .i64 c.Pi, .int .i64 c.E, .int .i64 c.G, .int .i64 c.F, .slice a c.P.length cap]] w (ConfRet2 (makeC c) w) := by
  have HF := Lib.hid (show (makeC c).F = if c.F % 3 = 0 then 65535 - c.F % 40 else c.F % 65536 from rfl)
  have b3 : 0 ≤ c.F % 3 := by omega
  have b40 : 0 ≤ c.F % 40 := by omega
  have b40' : c.F % 40 < 40 := by omega
  go_enter Tryz.func7, Tryz.ntmps7
  go_upto_region 1 with fail
  go_cut [3] (fun s3 wx => s3 = .pointer (some ⟨w.heap.size + 2, 0, none⟩) ∧ MakeG c a cap w 0 (c.F % 65536) wx)
  case first =>
    have w6 : IntKind.i64.wrap (6 + c.N % 7) = 6 + c.N % 7 := wrap_in _ (by omega) (by omega)
    go_region_held3 (fun W => W.cell? ⟨w.heap.size, 0, none⟩ = some (.int .i64 c.N) ∧ W.cell? ⟨w.heap.size, 2, none⟩ = some (.int .i64 c.E) ∧ W.cell? ⟨w.heap.size, 3, none⟩ = some (.int .i64 c.G) ∧ W.cell? ⟨w.heap.size, 4, none⟩ = some (.int .i64 c.F)) (go_keep)
      (first | (go_at_call 29; refine (within3_any _ _ _ ?_ ?_).mono ?_; omega; omega; rintro e wl ⟨rfl, rfl⟩))
    all_goals go_wp2_with fail
    all_goals go_meet
    all_goals
      refine ⟨rfl, ?_⟩
      exact ⟨(((alloc_below w _).alloc (by simp) _).alloc (by simp; omega) _).drew, ((Blk.new w _ _).alloc _).alloc _, (Blk.newAt _ _ (by simp)).alloc _, Blk.newAt _ _ (by simp)⟩
  case rest =>
    obtain ⟨rfl, hB, k1, k2, k3⟩ := hcut
    have q1 := k1.at
    unfold confBox at q1
    have q3 := k3.at
    have f3 := k3.frozen
    go_upto_if 22 with (go_at_call 29; refine (within3_any c.F 3 _ (by omega) (by omega)).mono ?_; rintro e wl ⟨rfl, rfl⟩)
    go_cut [] (fun wx => MakeG c a cap w 0 (makeC c).F wx)
    case first =>
      by_cases h3 : c.F % 3 = 0
      · have d3 : (c.F % 3 == 0) = true := by simpa using h3
        rw [if_pos h3] at HF
        clear h3
        go_wp2_with (go_at_call 29; refine (within3_any c.F 40 _ (by omega) (by omega)).mono ?_; rintro e wl ⟨rfl, rfl⟩)
        go_meet
        have k3' := k3.set 4 (.int .i64 (65535 - c.F % 40))
        exact ⟨hB.setCell (by simp) _, k1.far (by simp) _, k2.far (by simp) _, by rw [HF.out]; exact k3'⟩
      · have d3 : (c.F % 3 == 0) = false := by simpa using h3
        rw [if_neg h3] at HF
        clear h3
        go_wp2_with fail
        go_meet
        exact ⟨hB, k1, k2, by rw [HF.out]; exact k3⟩
    case rest =>
      clear hB k1 k2 k3 q1 q3 f3
      obtain ⟨hB, k1, k2, k3⟩ := hcut
      have q1 := k1.at
      unfold confBox at q1
      have q3 := k3.at
      have f3 := k3.frozen
      go_upto_region 4 with fail
      go_cut [] (fun wx => MakeG c a cap w (makeC c).Pi (makeC c).F wx)
      case first =>
        have z1 : IntKind.i64.wrap (c.E % 21 + c.G % 21) = c.E % 21 + c.G % 21 := wrap_in _ (by omega) (by omega)
        have z2 : IntKind.i64.wrap (c.E % 21 + c.G % 21 + 1) = c.E % 21 + c.G % 21 + 1 := wrap_in _ (by omega) (by omega)
        have z3 : IntKind.i64.wrap (4 * (c.E % 21 + c.G % 21 + 1)) = 4 * (c.E % 21 + c.G % 21 + 1) := wrap_in _ (by omega) (by omega)
        have z4 : IntKind.i64.wrap (4 * (c.E % 21 + c.G % 21 + 1) + c.Pi % 100) = 4 * (c.E % 21 + c.G % 21 + 1) + c.Pi % 100 := wrap_in _ (by omega) (by omega)
        have HP := Lib.hid (show (makeC c).Pi = 4 * (c.E % 21 + c.G % 21 + 1) + c.Pi % 100 from rfl)
        have t1 := q1 1
        have t2 := q3 2
        have t3 := q3 3
        simp at t1 t2 t3
        go_region_held3 (fun W => W.cell? ⟨w.heap.size, 1, none⟩ = some (.int .i64 c.Pi) ∧ W.cell? ⟨w.heap.size + 2, 2, none⟩ = some (.int .i64 (c.E % 21)) ∧ W.cell? ⟨w.heap.size + 2, 3, none⟩ = some (.int .i64 (c.G % 21))) (first | (go_keep; done) | exact ⟨keep_set t1 (by simp), keep_set t2 (by simp), keep_set t3 (by simp)⟩)
          (first | (go_at_call 29; refine (within3_any _ _ _ ?_ ?_).mono ?_; omega; omega; rintro e wl ⟨rfl, rfl⟩))
        all_goals go_wp2_with fail
        all_goals go_meet
        all_goals
          have k3' := k3.set 1 (.int .i64 (4 * (c.E % 21 + c.G % 21 + 1) + c.Pi % 100))
          exact ⟨(hB.setCell (by simp) _).drew, k1.far (by simp) _, k2.far (by simp) _, by rw [HP.out]; exact k3'⟩
      case rest =>
        clear hB k1 k2 k3 q1 q3 f3
        obtain ⟨hB, k1, k2, k3⟩ := hcut
        go_wp2
        go_loopw [4] (fun i w' => MakeL c a cap w i w') (fun i _ => 3 - (intOf i).toNat)
        case atStart => exact ⟨0, _, Nat.zero_le _, by omega, rfl, hB, k1, k2, k3, OwnI.nil _ _⟩
        case round =>
          clear hB k1 k2 k3
          obtain ⟨k, v, hk, hk3, rfl, hB, k1, k2, k3, hown⟩ := hrel
          have q1 := k1.at
          unfold confBox at q1
          have q3 := k3.at
          have f3 := k3.frozen
          by_cases hlt : k < c.P.length
          · have d1 : decide (k < c.P.length) = true := by simpa using hlt
            by_cases h3 : k < 3
            · have d2 : decide ((k : Int) < 3) = true := by simp; omega
              obtain ⟨b, off, rfl, hbl, hcell, hz1, hz2⟩ := (hrow.later hB).get k hlt
              have hbw : b < w.heap.size := by
                obtain ⟨b', off', e, hlt', _⟩ := hrow.get k hlt
                simp at e
                omega
              obtain ⟨hkl, hkg⟩ := makeP_get c k hlt h3
              have HT := Lib.hid (show (makeC c).P.take (k + 1) = (makeC c).P.take k ++ [c.P[k] % (6 + c.N % 7 + 1) - 1] by rw [List.take_succ_eq_append_getElem hkl, hkg])
              clear hkg
              have hL : ((makeC c).P.take k).length ≤ 3 := by rw [List.length_take]; omega
              generalize c.P[k] = z at *
              generalize (makeC c).P.take k = PL at *
              obtain ⟨av, cv, rfl⟩ := hown.form
              have g0 : (0 : Int) ≤ (k : Int) := by omega
              have g1 : (k : Int) < (c.P.length : Int) := by omega
              have hol := hown.lt
              have hz := k3.lt
              have m0 : 0 ≤ z % (6 + c.N % 7 + 1) := Int.emod_nonneg _ (by omega)
              have m1 : z % (6 + c.N % 7 + 1) < 6 + c.N % 7 + 1 := Int.emod_lt_of_pos _ (by omega)
              have z1 : IntKind.i64.wrap (6 + c.N % 7 + 1) = 6 + c.N % 7 + 1 := wrap_in _ (by omega) (by omega)
              have z2 : IntKind.i64.wrap (z % (6 + c.N % 7 + 1) - 1) = z % (6 + c.N % 7 + 1) - 1 := wrap_in _ (by omega) (by omega)
              have t1 := q1 5
              have t2 := q3 0
              simp at t1 t2
              go_wp2
              go_region_law (first
                | (refine step_app1 _ (by rfl) (.tmp 52) (.tmp 63) (by rfl) (w.heap.size + 3) (.slice av PL.length cv) PL (by simp [Act.eval]) (hown.later ((Below.refl _ _).drew.alloc (by simp) _)) wr.heap.size 1 (z % (6 + c.N % 7 + 1) - 1) (by simp [Act.eval]) (heap_alloc_new _ _) (by omega) (by simp; omega) ?_; intro g cap' w2 h1' h2' h3' h4'; have k3w := (Blk.alloc (w := wr.drew) k3 _).grown h2' (fun e => by have := (hol _ e.symm).1; omega); have q3w := k3w.at 5; have f3w := k3w.frozen 5)
                | (go_simp; go_at_call 29; refine (within3_any _ _ _ ?_ ?_).mono ?_; omega; omega; rintro e wl ⟨rfl, rfl⟩))
              all_goals
                go_wp2
                go_roundw
                case rel =>
                  refine ⟨k + 1, _, by omega, by omega, by go_num, ?_, ?_, ?_, k3w.set 5 _, ?_⟩
                  · exact (below_grown (hB.drew.alloc hB.drew.size _) (hB.drew.alloc hB.drew.size _).size h2' (fun g hg => by have := (hol g hg).1; omega)).setCell (by simp) _
                  · exact ((Blk.alloc (w := wr.drew) k1 _).grown h2' (fun e => by have := (hol _ e.symm).1; omega)).far (by simp) _
                  · exact ((Blk.alloc (w := wr.drew) k2 _).grown h2' (fun e => by have := (hol _ e.symm).1; omega)).far (by simp) _
                  · rw [HT.out]
                    exact h1'.far ⟨w.heap.size + 2, 5, none⟩ _ (by simp)
                case measure => simp [intOf]; omega
            · have d2 : decide ((k : Int) < 3) = false := by simp; omega
              have HL := Lib.hid (show (makeC c).P.take k = (makeC c).P from List.take_of_length_le (by rw [makeP_len]; omega))
              rw [HL.out] at hown
              obtain ⟨av, cv, rfl⟩ := hown.form
              have q2 := k2.at
              have f2 := k2.frozen
              go_wp2
              exact make_end c w wr av cv hB k2 hown
          · have d1 : decide (k < c.P.length) = false := by simpa using hlt
            have HL := Lib.hid (show (makeC c).P.take k = (makeC c).P from List.take_of_length_le (by rw [makeP_len]; omega))
            rw [HL.out] at hown
            obtain ⟨av, cv, rfl⟩ := hown.form
            have q2 := k2.at
            have f2 := k2.frozen
            go_wp2
            exact make_end c w wr av cv hB k2 hown

theorem make_any (c : Cf) (a : Option Addr) (cap : Nat) (w : World) (hrow : Row w a c.P) :
    Calls Tryz.prog 7 #[.agg #[.int .i64 c.N, .int .i64 c.Pi, .int .i64 c.E, .int .i64 c.G, .int .i64 c.F, .slice a c.P.length cap]] w (ConfRet (makeC c) w) := (make_any2 c a cap w hrow).mono fun e w' ⟨da, dc, h1, h2, h3, _, h4⟩ => ⟨da, dc, h1, h2, h3, h4⟩

end Go.Proofs.YtbghpkdkfbpmeaaGreat
/-
  plaitinglaw5's known; what all laws of frames use.
-/
namespace Go.Proofs.YtbghpkdkfbpmeaaGreat
open Go.RowKit Plait
set_option maxRecDepth 100000
set_option linter.unusedVariables false

theorem itemB_in {i : It} {b : Bool} (h : itemB i b = true) : (0 ≤ i.K ∧ i.K ≤ 2) ∧ 0 ≤ i.V ∧ i.V ≤ 255 := by
  unfold itemB at h
  split at h
  · simp at h; omega
  · split at h
    · simp at h; omega
    · split at h
      · simp at h; omega
      · simp at h

theorem ok_small {c : Cf} {f : Fr} (hc : c.Ok) (h : f.Ok c) : inI f.K ∧ inI f.R ∧ inI f.S ∧ inI f.P.K ∧ inI f.P.V ∧ f.E.length ≤ 15 := by
  obtain ⟨s0, s1, r0, r1, k1, k3, kp, p, pz, len, all⟩ := h
  have hs : slotsI c ≤ 15 := by have := hc.n12; have := hc.len; unfold slotsI; omega
  have hp := itemB_in p
  have he : echoI c f.K f.S ≤ 15 := by unfold echoI; split <;> omega
  unfold inI
  omega

/-- Text of a frame that may be. -/
theorem fText_ok (d : Cf) (da : Option Addr) (dc : Nat) (g : Fr) (ga : Option Addr) (gc : Nat) (w : World) (hok : d.Ok) (hokg : g.Ok d) (hE : RowT w ga g.E) :
    Calls Tryz.prog 60 #[.agg #[.int .i64 d.N, .int .i64 d.Pi, .int .i64 d.E, .int .i64 d.G, .int .i64 d.F, .slice da d.P.length dc], .agg #[.int .i64 g.K, .int .i64 g.R, .int .i64 g.S, .int .i64 g.P.K, .int .i64 g.P.V, .slice ga g.E.length gc]] w fun e w' => e = .returned (.string ⟨(textF g).toArray⟩) ∧ Below w.heap.size w w' := by
  obtain ⟨h1, h2, h3, h4, h5, h6⟩ := ok_small hok hokg
  exact fText_any d da dc g ga gc w hE (by omega) h1 h2 h3 h4 h5

theorem rText_ok (d : Cf) (da : Option Addr) (dc : Nat) (g : Fr) (ga : Option Addr) (gc : Nat) (w : World) (hok : d.Ok) (hokg : g.Ok d) (hE : RowT w ga g.E) :
    Calls Tryz.prog 13 #[.agg #[.int .i64 d.N, .int .i64 d.Pi, .int .i64 d.E, .int .i64 d.G, .int .i64 d.F, .slice da d.P.length dc], .agg #[.int .i64 g.K, .int .i64 g.R, .int .i64 g.S, .int .i64 g.P.K, .int .i64 g.P.V, .slice ga g.E.length gc]] w fun e w' => e = .returned (.string ⟨(textF g).toArray⟩) ∧ Below w.heap.size w w' := by
  obtain ⟨h1, h2, h3, h4, h5, h6⟩ := ok_small hok hokg
  exact rText_any d da dc g ga gc w hE (by omega)

theorem text_whole (g : Fr) : wholeB (textF g) = true := by
  unfold textF
  rw [wrapL_eq]
  exact whole_bits _ (wrapB_bits _ (frBits_all g))

/-- The chapter's example. -/
def c0 : Cf := ⟨6, 4, 0, 0, 0, []⟩
def f0 : Fr := ⟨1, 0, 0, ⟨0, 0⟩, []⟩
theorem c0_ok : c0.Ok where
  n6 := by decide
  n12 := by decide
  e0 := by decide
  e1 := by decide
  g0 := by decide
  g1 := by decide
  f0 := by decide
  f1 := by decide
  p0 := by decide
  p1 := by decide
  len := by decide
  all := by intro a ha; cases ha

end Go.Proofs.YtbghpkdkfbpmeaaGreat
/-
  What the frames of the laws over networks and frames use: networks, frames, rows and texts as the walks are told of them.
-/
namespace Go.Proofs.YtbghpkdkfbpmeaaGreat
open Go.ChangeShapes Go.WideShapes Go.ChangeAt Go.RowKit Go.Joins Go.Deep Plait
set_option maxRecDepth 100000
set_option linter.unusedVariables false

theorem own : ownKnob Tryz.prog.godebug = none := by kernel_rfl
theorem laidOut : laidOutB Tryz.prog = true := by kernel_rfl

theorem wf_lo {x : Int} (h : (Lit.int .i64 x).wf = true) : -9223372036854775808 ≤ x := (bounds_i64 h).1
theorem wf_hi {x : Int} (h : (Lit.int .i64 x).wf = true) : x ≤ 9223372036854775807 := (bounds_i64 h).2

theorem row_of {w : World} {x : Addr} {len cap : Nat} {zs : List Int} (hl : len ≤ cap) (hm : cap ≤ maxLen) (hz : len ≤ zs.length)
    (hcell : ∀ i, i < zs.length → w.cell? (x.add i) = some (.int .i64 (zs.getD i 0))) (hwz : ∀ n ∈ zs, (Lit.int .i64 n).wf = true) :
    ∃ ys : List Int, len = ys.length ∧ Row w (some x) ys := by
  have hlen : (zs.take len).length = len := by rw [List.length_take]; omega
  refine ⟨zs.take len, hlen.symm, by rw [hlen]; unfold maxLen at hm; omega, fun z hz' => bounds_i64 (hwz z (List.mem_of_mem_take hz')), ?_⟩
  by_cases h0 : len = 0
  · left
    rw [h0]
    rfl
  · right
    obtain ⟨b, off, spot⟩ := x
    have hc := hcell 0 (by omega)
    have hspot : spot = none := by simpa [Addr.add] using World.cell?_spot hc
    subst hspot
    rw [addr_at] at hc
    refine ⟨b, off, rfl, World.block_lt_of_cell? _ _ hc, fun i hi => ?_⟩
    have hi' : i < zs.length := by rw [hlen] at hi; omega
    have := hcell i hi'
    rw [addr_at] at this
    rw [this, List.getElem_take, List.getD_eq_getElem?_getD, List.getElem?_eq_getElem hi']
    rfl

/-- A network that came in. -/
theorem open_conf {H : Type} {enc : TypeId × Value → H} {W : World} {base b0 : Nat} {spare : Nat → Bool} {held : Bool} {r : Reach} {v : Value} {d : DataW H} {p : List MemPlace}
    (hv : Value.okWide Tryz.prog W r b0 24 v) (h : DataW.Trod enc Tryz.prog W base spare held 24 v d p) :
    ∃ (c : Cf) (a : Option Addr) (cap : Nat), v = .agg #[.int .i64 c.N, .int .i64 c.Pi, .int .i64 c.E, .int .i64 c.G, .int .i64 c.F, .slice a c.P.length cap] ∧ Row W a c.P ∧ inI c.N ∧ inI c.Pi ∧ inI c.E ∧ inI c.G ∧ inI c.F := by
  obtain ⟨cs, rfl, hsz⟩ := okWide_struct Tryz.underlying24 hv
  obtain ⟨l⟩ := cs
  have hC : Tryz.prog.cellsOf 24 = 6 := by kernel_rfl
  match l, hsz.trans hC with
  | [c0, c1, c2, c3, c4, c5], _ =>
    obtain ⟨fuel, hf⟩ := h
    obtain ⟨xs, n, _, hx, _, hlen, hg⟩ := DataW.trod_struct Tryz.underlying24 hf
    have k3 : Tryz.prog.cellsOf 3 = 1 := by kernel_rfl
    have k22 : Tryz.prog.cellsOf 22 = 1 := by kernel_rfl
    match xs, hlen with
    | [y0, y1, y2, y3, y4, y5], _ =>
      have t0 := hg 0 _ rfl
      have t1 := hg 1 _ rfl
      have t2 := hg 2 _ rfl
      have t3 := hg 3 _ rfl
      have t4 := hg 4 _ rfl
      have t5 := hg 5 _ rfl
      simp [Value.cells, k3, k22] at t0 t1 t2 t3 t4 t5
      obtain ⟨n0, e0, _, w0⟩ := DataW.trod_int Tryz.underlying3 t0
      obtain ⟨n1, e1, _, w1⟩ := DataW.trod_int Tryz.underlying3 t1
      obtain ⟨n2, e2, _, w2⟩ := DataW.trod_int Tryz.underlying3 t2
      obtain ⟨n3, e3, _, w3⟩ := DataW.trod_int Tryz.underlying3 t3
      obtain ⟨n4, e4, _, w4⟩ := DataW.trod_int Tryz.underlying3 t4
      simp at e0 e1 e2 e3 e4
      subst e0 e1 e2 e3 e4
      have hrow : ∃ (a : Option Addr) (cap : Nat) (zs : List Int), c5 = .slice a zs.length cap ∧ Row W a zs := by
        rcases open_ints Tryz.underlying22 Tryz.underlying3 (by kernel_rfl) t5 with ⟨hcs, _⟩ | ⟨x, l, c, zs, hcs, _, hl, hm, hz, _, hcell, hwz⟩
        · simp at hcs
          exact ⟨none, 0, [], by simpa using hcs, Row.empty _ _⟩
        · simp at hcs
          obtain ⟨ys, e, hr⟩ := row_of hl hm (by rw [hz]; split <;> omega) hcell hwz
          exact ⟨some x, c, ys, by rw [hcs, e], hr⟩
      obtain ⟨a, cap, zs, rfl, hr⟩ := hrow
      exact ⟨⟨n0, n1, n2, n3, n4, zs⟩, a, cap, rfl, hr, bounds_i64 w0, bounds_i64 w1, bounds_i64 w2, bounds_i64 w3, bounds_i64 w4⟩

theorem bytes_list (s : ByteArray) : ∃ l : List UInt8, s = ⟨l.toArray⟩ := ⟨s.data.toList, by simp⟩
theorem str_le {l : List UInt8} (h : (⟨l.toArray⟩ : ByteArray).size ≤ maxLen) : l.length ≤ 9223372036854775807 := by
  rw [size_mk] at h; exact h
theorem row_nil (w : World) : ∃ zs : List Int, 0 = zs.length ∧ Row w none zs := ⟨[], rfl, Row.empty _ _⟩

theorem open_item {H : Type} {enc : TypeId × Value → H} {W : World} {base fuel : Nat} {spare : Nat → Bool} {held : Bool} {cs : List Value} {x : DataW H × List MemPlace}
    (h : DataW.trod enc Tryz.prog W base spare held fuel 29 cs = some x) : ∃ t : It, cs = [.int .i64 t.K, .int .i64 t.V] ∧ inI t.K ∧ inI t.V := by
  obtain ⟨xs, n, _, _, hcs, hlen, hg⟩ := DataW.trod_struct Tryz.underlying29 h
  have hC : Tryz.prog.cellsOf 29 = 2 := by kernel_rfl
  have k3 : Tryz.prog.cellsOf 3 = 1 := by kernel_rfl
  rw [hC] at hcs
  match cs, hcs with
  | [u0, u1], _ =>
    match xs, hlen with
    | [y0, y1], _ =>
      have t0 := hg 0 _ rfl
      have t1 := hg 1 _ rfl
      simp [k3] at t0 t1
      obtain ⟨n0, e0, _, w0⟩ := DataW.trod_int Tryz.underlying3 t0
      obtain ⟨n1, e1, _, w1⟩ := DataW.trod_int Tryz.underlying3 t1
      simp at e0 e1
      exact ⟨⟨n0, n1⟩, by rw [e0, e1], bounds_i64 w0, bounds_i64 w1⟩

theorem list_of {α : Type} [Inhabited α] (n : Nat) (Q : Nat → α → Prop) (h : ∀ i, i < n → ∃ t, Q i t) : ∃ ts : List α, ts.length = n ∧ ∀ i (hi : i < ts.length), Q i ts[i] := by
  induction n with
  | zero => exact ⟨[], rfl, fun i hi => absurd hi (by simp)⟩
  | succ n ih =>
    obtain ⟨ts, hl, hq⟩ := ih (fun i hi => h i (by omega))
    obtain ⟨t, ht⟩ := h n (by omega)
    refine ⟨ts ++ [t], by simp [hl], fun i hi => ?_⟩
    rcases Nat.lt_or_ge i ts.length with h1 | h1
    · rw [List.getElem_append_left h1]
      exact hq i h1
    · have : i = n := by simp at hi; omega
      subst this
      rw [List.getElem_append_right h1]
      simpa [hl] using ht

theorem open_items {H : Type} {enc : TypeId × Value → H} {W : World} {base fuel : Nat} {spare : Nat → Bool} {held : Bool} {v : Value} {x : DataW H × List MemPlace}
    (h : DataW.trod enc Tryz.prog W base spare held fuel 30 [v] = some x) : ∃ (a : Option Addr) (cap : Nat) (ts : List It), v = .slice a ts.length cap ∧ RowT W a ts := by
  have hC : Tryz.prog.cellsOf 29 = 2 := by kernel_rfl
  rcases DataW.trod_slice Tryz.underlying30 h with ⟨hcs, _⟩ | ⟨a, len, cap, elems, rest, n, _, hcs, _, _, hl, hm, hlen, hel, _⟩
  · simp at hcs
    exact ⟨none, 0, [], by simpa using hcs, RowT.empty _ _⟩
  · simp at hcs
    rw [hC] at hel
    have each : ∀ i, i < len → ∃ t : It, W.cell? (a.add (i * 2)) = some (.int .i64 t.K) ∧ W.cell? ((a.add (i * 2)).add 1) = some (.int .i64 t.V) ∧ inI t.K ∧ inI t.V := by
      intro i hi
      have he := hel i hi
      rw [List.getElem?_eq_getElem (by omega), Option.bind_eq_some_iff] at he
      obtain ⟨cs, h1, h2⟩ := he
      obtain ⟨t, rfl, k1, k2⟩ := open_item h2
      have hc := (World.cells?_some h1).2.2
      have q0 := hc 0 (by omega)
      have q1 := hc 1 (by omega)
      simp [Addr.add] at q0
      refine ⟨t, ?_, by simpa using q1, k1, k2⟩
      have : (a.add (i * 2)).add 0 = a.add (i * 2) := by obtain ⟨b, off, spot⟩ := a; simp [Addr.add]
      have q0' := hc 0 (by omega)
      rw [this] at q0'
      simpa using q0'
    obtain ⟨ts, htl, hts⟩ := list_of len _ each
    subst htl
    refine ⟨some a, cap, ts, hcs, by unfold maxLen at hm; omega, fun t ht => ?_, ?_⟩
    · obtain ⟨i, hi, rfl⟩ := List.getElem_of_mem ht
      exact (hts i hi).2.2
    · by_cases h0 : ts = []
      · exact .inl h0
      · right
        have hpos : 0 < ts.length := List.length_pos_iff.2 h0
        obtain ⟨b, off, spot⟩ := a
        have hc := (hts 0 hpos).1
        have hspot : spot = none := by simpa [Addr.add] using World.cell?_spot hc
        subst hspot
        rw [addr_at] at hc
        refine ⟨b, off, rfl, World.block_lt_of_cell? _ _ hc, fun i hi => ?_⟩
        have h1 := hts i hi
        rw [addr_at, addr_at] at h1
        exact ⟨h1.1, h1.2.1⟩

/-- A frame that came in. -/
theorem open_frame {H : Type} {enc : TypeId × Value → H} {W : World} {base b0 : Nat} {spare : Nat → Bool} {held : Bool} {r : Reach} {v : Value} {d : DataW H} {p : List MemPlace}
    (hv : Value.okWide Tryz.prog W r b0 32 v) (h : DataW.Trod enc Tryz.prog W base spare held 32 v d p) :
    ∃ (f : Fr) (a : Option Addr) (cap : Nat), v = .agg #[.int .i64 f.K, .int .i64 f.R, .int .i64 f.S, .int .i64 f.P.K, .int .i64 f.P.V, .slice a f.E.length cap] ∧ RowT W a f.E ∧ inI f.K ∧ inI f.R ∧ inI f.S ∧ inI f.P.K ∧ inI f.P.V := by
  obtain ⟨cs, rfl, hsz⟩ := okWide_struct Tryz.underlying32 hv
  obtain ⟨l⟩ := cs
  have hC : Tryz.prog.cellsOf 32 = 6 := by kernel_rfl
  match l, hsz.trans hC with
  | [c0, c1, c2, c3, c4, c5], _ =>
    obtain ⟨fuel, hf⟩ := h
    obtain ⟨xs, n, _, hx, _, hlen, hg⟩ := DataW.trod_struct Tryz.underlying32 hf
    have k3 : Tryz.prog.cellsOf 3 = 1 := by kernel_rfl
    have k26 : Tryz.prog.cellsOf 29 = 2 := by kernel_rfl
    have k27 : Tryz.prog.cellsOf 30 = 1 := by kernel_rfl
    match xs, hlen with
    | [y0, y1, y2, y3, y4], _ =>
      have t0 := hg 0 _ rfl
      have t1 := hg 1 _ rfl
      have t2 := hg 2 _ rfl
      have t3 := hg 3 _ rfl
      have t4 := hg 4 _ rfl
      simp [Value.cells, k3, k26, k27] at t0 t1 t2 t3 t4
      obtain ⟨n0, e0, _, w0⟩ := DataW.trod_int Tryz.underlying3 t0
      obtain ⟨n1, e1, _, w1⟩ := DataW.trod_int Tryz.underlying3 t1
      obtain ⟨n2, e2, _, w2⟩ := DataW.trod_int Tryz.underlying3 t2
      obtain ⟨t, e3, i1, i2⟩ := open_item t3
      obtain ⟨a, cap, ts, e5, hr⟩ := open_items t4
      simp at e0 e1 e2 e3
      subst e0 e1 e2 e5
      obtain ⟨rfl, rfl⟩ := e3
      exact ⟨⟨n0, n1, n2, t, ts⟩, a, cap, rfl, hr, bounds_i64 w0, bounds_i64 w1, bounds_i64 w2, i1, i2⟩

end Go.Proofs.YtbghpkdkfbpmeaaGreat
/-
  What the laws hold on to while frames are read: the network's box.
-/
namespace Go.Proofs.YtbghpkdkfbpmeaaGreat
open Go.RowKit Plait
set_option maxRecDepth 100000
set_option linter.unusedVariables false

/-- The network d lies boxed at db; all that lay at the start is as it was. -/
def HeldD (d : Cf) (da : Option Addr) (dc db : Nat) (w W : World) : Prop := Below w.heap.size w W ∧ Blk W db 24 (confBox d da dc)

theorem HeldD.next {d : Cf} {da : Option Addr} {dc db : Nat} {w W W' : World} (h : HeldD d da dc db w W) (hb : Below W.heap.size W W') : HeldD d da dc db w W' := ⟨h.1.trans (hb.mono h.1.size), h.2.later hb⟩
theorem HeldD.drew {d : Cf} {da : Option Addr} {dc db : Nat} {w W : World} (h : HeldD d da dc db w W) : HeldD d da dc db w W.drew := h.next (Below.refl _ _).drew
theorem HeldD.alloc {d : Cf} {da : Option Addr} {dc db : Nat} {w W : World} (h : HeldD d da dc db w W) (o : Obj) : HeldD d da dc db w (W.alloc o) := h.next (alloc_below _ _)
theorem HeldD.set {d : Cf} {da : Option Addr} {dc db : Nat} {w W : World} (h : HeldD d da dc db w W) {g : Nat} (hg : w.heap.size ≤ g ∧ db < g) (k : Nat) (u : Value) : HeldD d da dc db w (W.setCell ⟨g, k, none⟩ u) :=
  ⟨h.1.setCell (by show w.heap.size ≤ g; omega) u, h.2.far (by show db ≠ g; omega) u⟩
theorem HeldD.set6 {d : Cf} {da : Option Addr} {dc db : Nat} {w W : World} (h : HeldD d da dc db w W) {g : Nat} (hg : w.heap.size ≤ g ∧ db < g) (u0 u1 u2 u3 u4 u5 : Value) :
    HeldD d da dc db w ((((((W.setCell ⟨g, 0, none⟩ u0).setCell ⟨g, 1, none⟩ u1).setCell ⟨g, 2, none⟩ u2).setCell ⟨g, 3, none⟩ u3).setCell ⟨g, 4, none⟩ u4).setCell ⟨g, 5, none⟩ u5) := (((((h.set hg 0 u0).set hg 1 u1).set hg 2 u2).set hg 3 u3).set hg 4 u4).set hg 5 u5
theorem HeldD.new {d : Cf} {da : Option Addr} {dc db : Nat} {w W : World} (h : HeldD d da dc db w W) : w.heap.size ≤ W.heap.size ∧ db < W.heap.size := ⟨h.1.size, h.2.lt⟩
theorem HeldD.cells {d : Cf} {da : Option Addr} {dc db : Nat} {w W : World} (h : HeldD d da dc db w W) : W.cell? ⟨db, 0, none⟩ = some (.int .i64 d.N) ∧ W.cell? ⟨db, 1, none⟩ = some (.int .i64 d.Pi) ∧ W.cell? ⟨db, 2, none⟩ = some (.int .i64 d.E) ∧ W.cell? ⟨db, 3, none⟩ = some (.int .i64 d.G) ∧ W.cell? ⟨db, 4, none⟩ = some (.int .i64 d.F) ∧ W.cell? ⟨db, 5, none⟩ = some (.slice da d.P.length dc) :=
  ⟨by rw [h.2.at]; rfl, by rw [h.2.at]; rfl, by rw [h.2.at]; rfl, by rw [h.2.at]; rfl, by rw [h.2.at]; rfl, by rw [h.2.at]; rfl⟩

/-- The frame f's box, too. -/
def HeldDF (d : Cf) (da : Option Addr) (dc db : Nat) (f : Fr) (fa : Option Addr) (fc : Nat) (w W : World) : Prop := HeldD d da dc db w W ∧ Blk W (w.heap.size + 1) 32 (frBox f fa fc)
theorem HeldDF.next {d : Cf} {da : Option Addr} {dc db : Nat} {f : Fr} {fa : Option Addr} {fc : Nat} {w W W' : World} (h : HeldDF d da dc db f fa fc w W) (hb : Below W.heap.size W W') : HeldDF d da dc db f fa fc w W' := ⟨h.1.next hb, h.2.later hb⟩
theorem HeldDF.cells {d : Cf} {da : Option Addr} {dc db : Nat} {f : Fr} {fa : Option Addr} {fc : Nat} {w W : World} (h : HeldDF d da dc db f fa fc w W) : W.cell? ⟨db, 0, none⟩ = some (.int .i64 d.N) ∧ W.cell? ⟨db, 1, none⟩ = some (.int .i64 d.Pi) ∧ W.cell? ⟨db, 2, none⟩ = some (.int .i64 d.E) ∧ W.cell? ⟨db, 3, none⟩ = some (.int .i64 d.G) ∧ W.cell? ⟨db, 4, none⟩ = some (.int .i64 d.F) ∧ W.cell? ⟨db, 5, none⟩ = some (.slice da d.P.length dc) ∧
    W.cell? ⟨w.heap.size + 1, 0, none⟩ = some (.int .i64 f.K) ∧ W.cell? ⟨w.heap.size + 1, 1, none⟩ = some (.int .i64 f.R) ∧ W.cell? ⟨w.heap.size + 1, 2, none⟩ = some (.int .i64 f.S) ∧ W.cell? ⟨w.heap.size + 1, 3, none⟩ = some (.int .i64 f.P.K) ∧ W.cell? ⟨w.heap.size + 1, 4, none⟩ = some (.int .i64 f.P.V) ∧ W.cell? ⟨w.heap.size + 1, 5, none⟩ = some (.slice fa f.E.length fc) :=
  ⟨by rw [h.1.2.at]; rfl, by rw [h.1.2.at]; rfl, by rw [h.1.2.at]; rfl, by rw [h.1.2.at]; rfl, by rw [h.1.2.at]; rfl, by rw [h.1.2.at]; rfl, by rw [h.2.at]; rfl, by rw [h.2.at]; rfl, by rw [h.2.at]; rfl, by rw [h.2.at]; rfl, by rw [h.2.at]; rfl, by rw [h.2.at]; rfl⟩

/-- Read, where its answer is known. -/
theorem fRead_to (d : Cf) (da : Option Addr) (dc : Nat) (t : List UInt8) (w : World) (hok : d.Ok) (hs : t.length ≤ 1048576) (p : Fr) (er : Int) (h : readF d t = (p, er)) :
    Calls Tryz.prog 68 #[.agg #[.int .i64 d.N, .int .i64 d.Pi, .int .i64 d.E, .int .i64 d.G, .int .i64 d.F, .slice da d.P.length dc], .string ⟨t.toArray⟩] w fun e w' => ∃ (a : Option Addr) (cap : Nat), e = .returned (.tuple #[.agg #[.int .i64 p.K, .int .i64 p.R, .int .i64 p.S, .int .i64 p.P.K, .int .i64 p.P.V, .slice a p.E.length cap], .int .i64 er]) ∧ RowT w' a p.E ∧ Below w.heap.size w w' := by
  have hr := fRead_any d da dc t w hok hs
  rw [h] at hr
  exact hr.mono fun e w' ⟨a, cap, h1, h2, _, h3⟩ => ⟨a, cap, h1, h2, h3⟩

theorem fRead_at (d : Cf) (da : Option Addr) (dc : Nat) (t : List UInt8) (w : World) (hok : d.Ok) (hs : t.length ≤ 1048576) (p : Fr) (er : Int) (h : readF d t = (p, er)) :
    Calls Tryz.prog 68 #[.agg #[.int .i64 d.N, .int .i64 d.Pi, .int .i64 d.E, .int .i64 d.G, .int .i64 d.F, .slice da d.P.length dc], .string ⟨t.toArray⟩] w fun e w' => ∃ (a : Option Addr) (cap : Nat), e = .returned (.tuple #[.agg #[.int .i64 p.K, .int .i64 p.R, .int .i64 p.S, .int .i64 p.P.K, .int .i64 p.P.V, .slice a p.E.length cap], .int .i64 er]) ∧ RowT w' a p.E ∧ (∀ x, a = some x → w.heap.size ≤ x.block) ∧ Below w.heap.size w w' := by
  have hr := fRead_any d da dc t w hok hs
  rw [h] at hr
  exact hr

theorem turn_length (l : List UInt8) (i : Int) : (turn l i).length = l.length := by unfold turn; split <;> simp

/-- A new box of a frame, where a call has made memory since. -/
theorem box_since {w wm : World} (hb : Below (w.alloc (.cells zeroBox 32)).drew.heap.size (w.alloc (.cells zeroBox 32)).drew wm) : Blk wm w.heap.size 32 zeroBox := (Blk.drew1 (Blk.new w _ _)).later hb

end Go.Proofs.YtbghpkdkfbpmeaaGreat

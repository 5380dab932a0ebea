/-
  Plain mathematics of midpoints, with no program in it: how many numbers are no greater, less, no less, greater than one; the second least and the second greatest one; the midpoint.
-/
namespace Plait

def nLe (l : List Int) (c : Int) : Nat := l.countP fun v => decide (v ≤ c)
def nLt (l : List Int) (c : Int) : Nat := l.countP fun v => decide (v < c)
def nGe (l : List Int) (c : Int) : Nat := l.countP fun v => decide (c ≤ v)
def nGt (l : List Int) (c : Int) : Nat := l.countP fun v => decide (c < v)

theorem nLe_nil (c : Int) : nLe [] c = 0 := rfl
theorem nLt_nil (c : Int) : nLt [] c = 0 := rfl
theorem nGe_nil (c : Int) : nGe [] c = 0 := rfl
theorem nGt_nil (c : Int) : nGt [] c = 0 := rfl
theorem nLe_cons (v : Int) (l : List Int) (c : Int) : nLe (v :: l) c = nLe l c + if v ≤ c then 1 else 0 := by simp [nLe, List.countP_cons]
theorem nLt_cons (v : Int) (l : List Int) (c : Int) : nLt (v :: l) c = nLt l c + if v < c then 1 else 0 := by simp [nLt, List.countP_cons]
theorem nGe_cons (v : Int) (l : List Int) (c : Int) : nGe (v :: l) c = nGe l c + if c ≤ v then 1 else 0 := by simp [nGe, List.countP_cons]
theorem nGt_cons (v : Int) (l : List Int) (c : Int) : nGt (v :: l) c = nGt l c + if c < v then 1 else 0 := by simp [nGt, List.countP_cons]
theorem nLe_app (l t : List Int) (c : Int) : nLe (l ++ t) c = nLe l c + nLe t c := by simp [nLe]
theorem nLt_app (l t : List Int) (c : Int) : nLt (l ++ t) c = nLt l c + nLt t c := by simp [nLt]
theorem nGe_app (l t : List Int) (c : Int) : nGe (l ++ t) c = nGe l c + nGe t c := by simp [nGe]
theorem nGt_app (l t : List Int) (c : Int) : nGt (l ++ t) c = nGt l c + nGt t c := by simp [nGt]

theorem cnt_mono {p q : Int → Bool} (l : List Int) (h : ∀ x, p x = true → q x = true) : l.countP p ≤ l.countP q := List.countP_mono_left fun x _ => h x
theorem nLe_lt (l : List Int) {b c : Int} (h : b < c) : nLe l b ≤ nLt l c := cnt_mono l fun x => by simp; omega
theorem nLe_le (l : List Int) {b c : Int} (h : b ≤ c) : nLe l b ≤ nLe l c := cnt_mono l fun x => by simp; omega
theorem nLt_lt (l : List Int) {b c : Int} (h : b ≤ c) : nLt l b ≤ nLt l c := cnt_mono l fun x => by simp; omega
theorem nGe_gt (l : List Int) {b c : Int} (h : c < b) : nGe l b ≤ nGt l c := cnt_mono l fun x => by simp; omega
theorem nGe_ge (l : List Int) {b c : Int} (h : c ≤ b) : nGe l b ≤ nGe l c := cnt_mono l fun x => by simp; omega
theorem nGt_gt (l : List Int) {b c : Int} (h : c ≤ b) : nGt l b ≤ nGt l c := cnt_mono l fun x => by simp; omega
theorem nLe_nGt (l : List Int) (c : Int) : nLe l c + nGt l c = l.length := by
  induction l with
  | nil => rfl
  | cons v l ih => rw [nLe_cons, nGt_cons, List.length_cons]; split <;> split <;> omega
theorem nLt_nGe (l : List Int) (c : Int) : nLt l c + nGe l c = l.length := by
  induction l with
  | nil => rfl
  | cons v l ih => rw [nLt_cons, nGe_cons, List.length_cons]; split <;> split <;> omega

/-- The second least, the second greatest one. -/
def SecL (l : List Int) (b : Int) : Prop := 2 ≤ nLe l b ∧ nLt l b ≤ 1
def SecG (l : List Int) (y : Int) : Prop := 2 ≤ nGe l y ∧ nGt l y ≤ 1
/-- What lies half way between them, rounded down. -/
def MidIs (l : List Int) (m : Int) : Prop := ∃ b y, SecL l b ∧ SecG l y ∧ m = (b + y) / 2

theorem SecL.le {l : List Int} {b c : Int} (h : SecL l b) (hc : 2 ≤ nLe l c) : b ≤ c := by
  rcases Int.lt_or_le c b with q | q
  · have := nLe_lt l q
    have := h.2
    omega
  · exact q
theorem SecG.ge {l : List Int} {y c : Int} (h : SecG l y) (hc : 2 ≤ nGe l c) : c ≤ y := by
  rcases Int.lt_or_le y c with q | q
  · have := nGe_gt l q
    have := h.2
    omega
  · exact q
theorem SecL.uniq {l : List Int} {b c : Int} (h : SecL l b) (h2 : SecL l c) : b = c := Int.le_antisymm (h.le h2.1) (h2.le h.1)
theorem SecG.uniq {l : List Int} {y c : Int} (h : SecG l y) (h2 : SecG l c) : y = c := Int.le_antisymm (h2.ge h.1) (h.ge h2.1)
theorem MidIs.uniq {l : List Int} {m n : Int} (h : MidIs l m) (h2 : MidIs l n) : m = n := by
  obtain ⟨b, y, hb, hy, rfl⟩ := h
  obtain ⟨c, z, hc, hz, rfl⟩ := h2
  rw [hb.uniq hc, hy.uniq hz]
theorem Sec.le {l : List Int} {b y : Int} (hb : SecL l b) (hy : SecG l y) (h : 3 ≤ l.length) : b ≤ y := by
  rcases Int.lt_or_le y b with q | q
  · have := nLe_lt l q
    have := hb.2
    have := hy.2
    have := nLe_nGt l y
    omega
  · exact q
/-- Rows that are alike but for their order. -/
theorem MidIs.perm {l t : List Int} {m : Int} (h : MidIs l m) (hp : t.Perm l) : MidIs t m := by
  obtain ⟨b, y, hb, hy, rfl⟩ := h
  refine ⟨b, y, ?_, ?_, rfl⟩
  · unfold SecL nLe nLt at *; rw [hp.countP_eq, hp.countP_eq]; exact hb
  · unfold SecG nGe nGt at *; rw [hp.countP_eq, hp.countP_eq]; exact hy

/-- The least, the greatest one. -/
def minI (l : List Int) : Int := l.foldl min (l.headD 0)
def maxI (l : List Int) : Int := l.foldl max (l.headD 0)
theorem foldl_min : ∀ (l : List Int) (a : Int), l.foldl min a ≤ a ∧ (∀ x ∈ l, l.foldl min a ≤ x) ∧ (l.foldl min a = a ∨ l.foldl min a ∈ l)
  | [], a => ⟨Int.le_refl _, by simp, .inl rfl⟩
  | v :: l, a => by
    obtain ⟨h1, h2, h3⟩ := foldl_min l (min a v)
    rw [List.foldl_cons]
    refine ⟨by omega, fun x hx => ?_, ?_⟩
    · rcases List.mem_cons.1 hx with rfl | hx
      · omega
      · exact h2 x hx
    · rcases h3 with h3 | h3
      · rcases Int.le_total a v with q | q
        · left; omega
        · right; rw [h3]; simp; left; omega
      · right; exact List.mem_cons_of_mem _ h3
theorem foldl_max : ∀ (l : List Int) (a : Int), a ≤ l.foldl max a ∧ (∀ x ∈ l, x ≤ l.foldl max a) ∧ (l.foldl max a = a ∨ l.foldl max a ∈ l)
  | [], a => ⟨Int.le_refl _, by simp, .inl rfl⟩
  | v :: l, a => by
    obtain ⟨h1, h2, h3⟩ := foldl_max l (max a v)
    rw [List.foldl_cons]
    refine ⟨by omega, fun x hx => ?_, ?_⟩
    · rcases List.mem_cons.1 hx with rfl | hx
      · omega
      · exact h2 x hx
    · rcases h3 with h3 | h3
      · rcases Int.le_total a v with q | q
        · right; rw [h3]; simp; left; omega
        · left; omega
      · right; exact List.mem_cons_of_mem _ h3
theorem minI_le {l : List Int} {x : Int} (h : x ∈ l) : minI l ≤ x := (foldl_min l _).2.1 x h
theorem le_maxI {l : List Int} {x : Int} (h : x ∈ l) : x ≤ maxI l := (foldl_max l _).2.1 x h
theorem minI_mem {l : List Int} (h : 0 < l.length) : minI l ∈ l := by
  cases l with
  | nil => simp at h
  | cons v l =>
    rcases (foldl_min (v :: l) v).2.2 with q | q
    · show (v :: l).foldl min v ∈ _
      rw [q]; simp
    · exact q
theorem maxI_mem {l : List Int} (h : 0 < l.length) : maxI l ∈ l := by
  cases l with
  | nil => simp at h
  | cons v l =>
    rcases (foldl_max (v :: l) v).2.2 with q | q
    · show (v :: l).foldl max v ∈ _
      rw [q]; simp
    · exact q

/-- What is left without one that is least and one that is greatest. -/
def leftI (l : List Int) : List Int := (l.erase (minI l)).erase (maxI l)
def midI (l : List Int) : Int := (minI (leftI l) + maxI (leftI l)) / 2

theorem maxI_erase {l : List Int} (h : 2 ≤ l.length) : maxI l ∈ l.erase (minI l) := by
  by_cases e : maxI l = minI l
  · have hp := List.perm_cons_erase (minI_mem (l := l) (by omega))
    have hl := hp.length_eq
    rw [List.length_cons] at hl
    obtain ⟨x, hx⟩ := List.exists_mem_of_length_pos (l := l.erase (minI l)) (by omega)
    have hm := List.mem_of_mem_erase hx
    have h1 := minI_le hm
    have h2 := le_maxI hm
    rw [show maxI l = x by omega]
    exact hx
  · exact (List.mem_erase_of_ne e).2 (maxI_mem (by omega))
theorem leftI_perm {l : List Int} (h : 2 ≤ l.length) : l.Perm (minI l :: maxI l :: leftI l) :=
  (List.perm_cons_erase (minI_mem (by omega))).trans ((List.perm_cons_erase (maxI_erase h)).cons _)
theorem leftI_len {l : List Int} (h : 2 ≤ l.length) : (leftI l).length + 2 = l.length := by
  have := (leftI_perm h).length_eq
  simp at this
  omega
theorem leftI_mem {l : List Int} {x : Int} (h : x ∈ leftI l) : x ∈ l := List.mem_of_mem_erase (List.mem_of_mem_erase h)

theorem nLe_one {l : List Int} {x c : Int} (h : x ∈ l) (hc : x ≤ c) : 1 ≤ nLe l c := List.countP_pos_iff.2 ⟨x, h, by simpa using hc⟩
theorem nGe_one {l : List Int} {x c : Int} (h : x ∈ l) (hc : c ≤ x) : 1 ≤ nGe l c := List.countP_pos_iff.2 ⟨x, h, by simpa using hc⟩
theorem nLt_none {l : List Int} {c : Int} (h : ∀ x ∈ l, c ≤ x) : nLt l c = 0 := List.countP_eq_zero.2 fun x hx => by simp; exact h x hx
theorem nGt_none {l : List Int} {c : Int} (h : ∀ x ∈ l, x ≤ c) : nGt l c = 0 := List.countP_eq_zero.2 fun x hx => by simp; exact h x hx

theorem midI_ends {l : List Int} (h : 4 ≤ l.length) : SecL l (minI (leftI l)) ∧ SecG l (maxI (leftI l)) := by
  have hp := leftI_perm (l := l) (by omega)
  have hl := leftI_len (l := l) (by omega)
  have m1 := minI_mem (l := leftI l) (by omega)
  have m2 := maxI_mem (l := leftI l) (by omega)
  have a1 := minI_le (leftI_mem m1)
  have a2 := le_maxI (leftI_mem m1)
  have a3 := minI_le (leftI_mem m2)
  have a4 := le_maxI (leftI_mem m2)
  have c1 := nLe_one m1 (Int.le_refl _)
  have c2 := nGe_one m2 (Int.le_refl _)
  have c3 := nLt_none (l := leftI l) (c := minI (leftI l)) fun x hx => minI_le hx
  have c4 := nGt_none (l := leftI l) (c := maxI (leftI l)) fun x hx => le_maxI hx
  have e1 : nLe l (minI (leftI l)) = nLe (minI l :: maxI l :: leftI l) (minI (leftI l)) := hp.countP_eq _
  have e2 : nLt l (minI (leftI l)) = nLt (minI l :: maxI l :: leftI l) (minI (leftI l)) := hp.countP_eq _
  have e3 : nGe l (maxI (leftI l)) = nGe (minI l :: maxI l :: leftI l) (maxI (leftI l)) := hp.countP_eq _
  have e4 : nGt l (maxI (leftI l)) = nGt (minI l :: maxI l :: leftI l) (maxI (leftI l)) := hp.countP_eq _
  rw [nLe_cons, nLe_cons, if_pos a1] at e1
  rw [nLt_cons, nLt_cons, if_neg (by omega : ¬ maxI l < minI (leftI l))] at e2
  rw [nGe_cons, nGe_cons, if_pos a4] at e3
  rw [nGt_cons, nGt_cons, if_neg (by omega : ¬ maxI (leftI l) < minI l)] at e4
  refine ⟨⟨by omega, ?_⟩, ⟨by omega, ?_⟩⟩
  · rw [e2, c3]; split <;> omega
  · rw [e4, c4]; split <;> omega
theorem midI_is {l : List Int} (h : 4 ≤ l.length) : MidIs l (midI l) := ⟨_, _, (midI_ends h).1, (midI_ends h).2, rfl⟩
theorem midI_of {l : List Int} {m : Int} (h : 4 ≤ l.length) (hm : MidIs l m) : midI l = m := (midI_is h).uniq hm

/-- The reference's four numbers: the least, the second least, the greatest, the second greatest. -/
structure Four (t : List Int) (a b z y : Int) : Prop where
  a1 : nLt t a = 0
  a2 : 1 ≤ nLe t a
  sb : SecL t b
  ab : a ≤ b
  z1 : nGt t z = 0
  z2 : 1 ≤ nGe t z
  sy : SecG t y
  yz : y ≤ z
theorem Four.two (p q : Int) : Four [p, q] (min p q) (max p q) (max p q) (min p q) := by
  refine ⟨?_, ?_, ⟨?_, ?_⟩, by omega, ?_, ?_, ⟨?_, ?_⟩, by omega⟩
  all_goals simp only [nLe_cons, nLt_cons, nGe_cons, nGt_cons, nLe_nil, nLt_nil, nGe_nil, nGt_nil]
  all_goals (repeat' split)
  all_goals omega
theorem cntsL (t : List Int) (v c : Int) : nLe (t ++ [v]) c = nLe t c + (if v ≤ c then 1 else 0) ∧ nLt (t ++ [v]) c = nLt t c + (if v < c then 1 else 0) := by
  rw [nLe_app, nLt_app, nLe_cons, nLt_cons, nLe_nil, nLt_nil]; simp
theorem cntsG (t : List Int) (v c : Int) : nGe (t ++ [v]) c = nGe t c + (if c ≤ v then 1 else 0) ∧ nGt (t ++ [v]) c = nGt t c + (if c < v then 1 else 0) := by
  rw [nGe_app, nGt_app, nGe_cons, nGt_cons, nGe_nil, nGt_nil]; simp
/-- One more number: below. -/
theorem Four.low {t : List Int} {a b z y : Int} (h : Four t a b z y) (v : Int) :
    (v < a → nLt (t ++ [v]) v = 0 ∧ 1 ≤ nLe (t ++ [v]) v ∧ SecL (t ++ [v]) a) ∧ (¬ v < a → v < b → nLt (t ++ [v]) a = 0 ∧ 1 ≤ nLe (t ++ [v]) a ∧ SecL (t ++ [v]) v) ∧ (¬ v < a → ¬ v < b → nLt (t ++ [v]) a = 0 ∧ 1 ≤ nLe (t ++ [v]) a ∧ SecL (t ++ [v]) b) := by
  obtain ⟨a1, a2, ⟨b1, b2⟩, ab, _, _, _, _⟩ := h
  refine ⟨fun q => ?_, fun q r => ?_, fun q r => ?_⟩ <;> unfold SecL
  · have := nLt_lt t (show v ≤ a by omega)
    rw [(cntsL t v v).1, (cntsL t v v).2, (cntsL t v a).1, (cntsL t v a).2, if_neg (by omega : ¬ v < v), if_pos (Int.le_refl v), if_pos (by omega : v ≤ a), if_pos q]
    omega
  · have := nLe_le t (show a ≤ v by omega)
    have := nLt_lt t (show v ≤ b by omega)
    rw [(cntsL t v v).1, (cntsL t v v).2, (cntsL t v a).1, (cntsL t v a).2, if_neg (by omega : ¬ v < v), if_pos (Int.le_refl v), if_neg q]
    refine ⟨by omega, by omega, by omega, by omega⟩
  · rw [(cntsL t v b).1, (cntsL t v b).2, (cntsL t v a).1, (cntsL t v a).2, if_neg q, if_neg r]
    refine ⟨by omega, by omega, by omega, by omega⟩
theorem Four.high {t : List Int} {a b z y : Int} (h : Four t a b z y) (v : Int) :
    (z < v → nGt (t ++ [v]) v = 0 ∧ 1 ≤ nGe (t ++ [v]) v ∧ SecG (t ++ [v]) z) ∧ (¬ z < v → y < v → nGt (t ++ [v]) z = 0 ∧ 1 ≤ nGe (t ++ [v]) z ∧ SecG (t ++ [v]) v) ∧ (¬ z < v → ¬ y < v → nGt (t ++ [v]) z = 0 ∧ 1 ≤ nGe (t ++ [v]) z ∧ SecG (t ++ [v]) y) := by
  obtain ⟨_, _, _, _, a1, a2, ⟨b1, b2⟩, ab⟩ := h
  refine ⟨fun q => ?_, fun q r => ?_, fun q r => ?_⟩ <;> unfold SecG
  · have := nGt_gt t (show z ≤ v by omega)
    rw [(cntsG t v v).1, (cntsG t v v).2, (cntsG t v z).1, (cntsG t v z).2, if_neg (by omega : ¬ v < v), if_pos (Int.le_refl v), if_pos (by omega : z ≤ v), if_pos q]
    omega
  · have := nGe_ge t (show v ≤ z by omega)
    have := nGt_gt t (show y ≤ v by omega)
    rw [(cntsG t v v).1, (cntsG t v v).2, (cntsG t v z).1, (cntsG t v z).2, if_neg (by omega : ¬ v < v), if_pos (Int.le_refl v), if_neg q]
    refine ⟨by omega, by omega, by omega, by omega⟩
  · rw [(cntsG t v y).1, (cntsG t v y).2, (cntsG t v z).1, (cntsG t v z).2, if_neg q, if_neg r]
    refine ⟨by omega, by omega, by omega, by omega⟩
/-- What becomes of them. -/
def lowA (a v : Int) : Int := if v < a then v else a
def lowB (a b v : Int) : Int := if v < a then a else if v < b then v else b
def hiZ (z v : Int) : Int := if z < v then v else z
def hiY (z y v : Int) : Int := if z < v then z else if y < v then v else y
theorem Four.next {t : List Int} {a b z y : Int} (h : Four t a b z y) (v : Int) : Four (t ++ [v]) (lowA a v) (lowB a b v) (hiZ z v) (hiY z y v) := by
  obtain ⟨l1, l2, l3⟩ := h.low v
  obtain ⟨h1, h2, h3⟩ := h.high v
  have ab := h.ab
  have yz := h.yz
  have L : nLt (t ++ [v]) (lowA a v) = 0 ∧ 1 ≤ nLe (t ++ [v]) (lowA a v) ∧ SecL (t ++ [v]) (lowB a b v) ∧ lowA a v ≤ lowB a b v := by
    unfold lowA lowB
    by_cases q : v < a
    · rw [if_pos q, if_pos q]; exact ⟨(l1 q).1, (l1 q).2.1, (l1 q).2.2, by omega⟩
    · by_cases r : v < b
      · rw [if_neg q, if_neg q, if_pos r]; exact ⟨(l2 q r).1, (l2 q r).2.1, (l2 q r).2.2, by omega⟩
      · rw [if_neg q, if_neg q, if_neg r]; exact ⟨(l3 q r).1, (l3 q r).2.1, (l3 q r).2.2, by omega⟩
  have H : nGt (t ++ [v]) (hiZ z v) = 0 ∧ 1 ≤ nGe (t ++ [v]) (hiZ z v) ∧ SecG (t ++ [v]) (hiY z y v) ∧ hiY z y v ≤ hiZ z v := by
    unfold hiZ hiY
    by_cases q : z < v
    · rw [if_pos q, if_pos q]; exact ⟨(h1 q).1, (h1 q).2.1, (h1 q).2.2, by omega⟩
    · by_cases r : y < v
      · rw [if_neg q, if_neg q, if_pos r]; exact ⟨(h2 q r).1, (h2 q r).2.1, (h2 q r).2.2, by omega⟩
      · rw [if_neg q, if_neg q, if_neg r]; exact ⟨(h3 q r).1, (h3 q r).2.1, (h3 q r).2.2, by omega⟩
  exact ⟨L.1, L.2.1, L.2.2.1, L.2.2.2, H.1, H.2.1, H.2.2.1, H.2.2.2⟩
theorem Four.mid {t : List Int} {a b z y : Int} (h : Four t a b z y) (hl : 4 ≤ t.length) : (b + y) / 2 = midI t := (midI_of hl ⟨b, y, h.sb, h.sy, rfl⟩).symm

/-- A row by its places. -/
def upTo (f : Nat → Int) (k : Nat) : List Int := (List.range k).map f
theorem upTo_len (f : Nat → Int) (k : Nat) : (upTo f k).length = k := by simp [upTo]
theorem upTo_succ (f : Nat → Int) (k : Nat) : upTo f (k + 1) = upTo f k ++ [f k] := by simp [upTo, List.range_succ]
theorem upTo_get (f : Nat → Int) (k i : Nat) (h : i < (upTo f k).length) : (upTo f k)[i] = f i := by simp [upTo]
theorem upTo_getD (f : Nat → Int) (k i : Nat) (h : i < k) : (upTo f k).getD i 0 = f i := by simp [upTo, h]
theorem upTo_self (l : List Int) : upTo (fun i => l.getD i 0) l.length = l := by
  apply List.ext_getElem
  · exact upTo_len _ _
  · intro i h1 h2
    rw [upTo_get]
    simp [h2]
theorem upTo_mem {f : Nat → Int} {k : Nat} {x : Int} (h : x ∈ upTo f k) : ∃ i, i < k ∧ x = f i := by
  unfold upTo at h
  obtain ⟨i, hi, rfl⟩ := List.mem_map.1 h
  exact ⟨i, List.mem_range.1 hi, rfl⟩
theorem mem_upTo (f : Nat → Int) (k i : Nat) (h : i < k) : f i ∈ upTo f k := List.mem_map.2 ⟨i, List.mem_range.2 h, rfl⟩
theorem upTo_congr {f g : Nat → Int} {k : Nat} (h : ∀ i, i < k → f i = g i) : upTo f k = upTo g k := List.map_congr_left fun i hi => h i (List.mem_range.1 hi)

theorem upTo_nLe {f g : Nat → Int} {c d : Int} : ∀ k : Nat, (∀ i, i < k → f i ≤ c → g i ≤ d) → nLe (upTo f k) c ≤ nLe (upTo g k) d
  | 0, _ => Nat.le_refl _
  | k + 1, h => by
    have ih := upTo_nLe k fun i hi => h i (by omega)
    have hk := h k (by omega)
    rw [upTo_succ, upTo_succ, (cntsL _ _ _).1, (cntsL _ _ _).1]
    split <;> split <;> omega
theorem upTo_nLt {f g : Nat → Int} {c d : Int} : ∀ k : Nat, (∀ i, i < k → f i < c → g i < d) → nLt (upTo f k) c ≤ nLt (upTo g k) d
  | 0, _ => Nat.le_refl _
  | k + 1, h => by
    have ih := upTo_nLt k fun i hi => h i (by omega)
    have hk := h k (by omega)
    rw [upTo_succ, upTo_succ, (cntsL _ _ _).2, (cntsL _ _ _).2]
    split <;> split <;> omega
theorem upTo_nGe {f g : Nat → Int} {c d : Int} : ∀ k : Nat, (∀ i, i < k → c ≤ f i → d ≤ g i) → nGe (upTo f k) c ≤ nGe (upTo g k) d
  | 0, _ => Nat.le_refl _
  | k + 1, h => by
    have ih := upTo_nGe k fun i hi => h i (by omega)
    have hk := h k (by omega)
    rw [upTo_succ, upTo_succ, (cntsG _ _ _).1, (cntsG _ _ _).1]
    split <;> split <;> omega
theorem upTo_nGt {f g : Nat → Int} {c d : Int} : ∀ k : Nat, (∀ i, i < k → c < f i → d < g i) → nGt (upTo f k) c ≤ nGt (upTo g k) d
  | 0, _ => Nat.le_refl _
  | k + 1, h => by
    have ih := upTo_nGt k fun i hi => h i (by omega)
    have hk := h k (by omega)
    rw [upTo_succ, upTo_succ, (cntsG _ _ _).2, (cntsG _ _ _).2]
    split <;> split <;> omega

/-- All put on by d: the midpoint is, too. -/
theorem mid_on (l : List Int) (d : Int) (h : 4 ≤ l.length) : midI (upTo (fun i => l.getD i 0 + d) l.length) = midI l + d := by
  obtain ⟨b, y, hb, hy, e⟩ := midI_is h
  refine midI_of (by rw [upTo_len]; exact h) ⟨b + d, y + d, ?_, ?_, by omega⟩
  · have h1 := upTo_nLe (f := fun i => l.getD i 0) (g := fun i => l.getD i 0 + d) (c := b) (d := b + d) l.length fun i _ q => by omega
    have h2 := upTo_nLt (g := fun i => l.getD i 0) (f := fun i => l.getD i 0 + d) (d := b) (c := b + d) l.length fun i _ q => by omega
    rw [upTo_self] at h1 h2
    have := hb.1; have := hb.2
    exact ⟨by omega, by omega⟩
  · have h1 := upTo_nGe (f := fun i => l.getD i 0) (g := fun i => l.getD i 0 + d) (c := y) (d := y + d) l.length fun i _ q => by omega
    have h2 := upTo_nGt (g := fun i => l.getD i 0) (f := fun i => l.getD i 0 + d) (d := y) (c := y + d) l.length fun i _ q => by omega
    rw [upTo_self] at h1 h2
    have := hy.1; have := hy.2
    exact ⟨by omega, by omega⟩
/-- Turned about. -/
theorem mid_neg (l : List Int) (h : 4 ≤ l.length) : midI (upTo (fun i => 0 - l.getD i 0) l.length) = 0 - midI l ∨ midI (upTo (fun i => 0 - l.getD i 0) l.length) = 0 - midI l - 1 := by
  obtain ⟨b, y, hb, hy, e⟩ := midI_is h
  have e2 : midI (upTo (fun i => 0 - l.getD i 0) l.length) = ((0 - y) + (0 - b)) / 2 := by
    refine midI_of (by rw [upTo_len]; exact h) ⟨0 - y, 0 - b, ?_, ?_, rfl⟩
    · have h1 : nGe (upTo (fun i => l.getD i 0) l.length) y ≤ nLe (upTo (fun i => 0 - l.getD i 0) l.length) (0 - y) := by
        have : ∀ k : Nat, nGe (upTo (fun i => l.getD i 0) k) y ≤ nLe (upTo (fun i => 0 - l.getD i 0) k) (0 - y) := by
          intro k
          induction k with
          | zero => exact Nat.le_refl _
          | succ k ih => rw [upTo_succ, upTo_succ, (cntsG _ _ _).1, (cntsL _ _ _).1]; split <;> split <;> omega
        exact this _
      have h2 : nLt (upTo (fun i => 0 - l.getD i 0) l.length) (0 - y) ≤ nGt (upTo (fun i => l.getD i 0) l.length) y := by
        have : ∀ k : Nat, nLt (upTo (fun i => 0 - l.getD i 0) k) (0 - y) ≤ nGt (upTo (fun i => l.getD i 0) k) y := by
          intro k
          induction k with
          | zero => exact Nat.le_refl _
          | succ k ih => rw [upTo_succ, upTo_succ, (cntsG _ _ _).2, (cntsL _ _ _).2]; split <;> split <;> omega
        exact this _
      rw [upTo_self] at h1 h2
      have := hy.1; have := hy.2
      exact ⟨by omega, by omega⟩
    · have h1 : nLe (upTo (fun i => l.getD i 0) l.length) b ≤ nGe (upTo (fun i => 0 - l.getD i 0) l.length) (0 - b) := by
        have : ∀ k : Nat, nLe (upTo (fun i => l.getD i 0) k) b ≤ nGe (upTo (fun i => 0 - l.getD i 0) k) (0 - b) := by
          intro k
          induction k with
          | zero => exact Nat.le_refl _
          | succ k ih => rw [upTo_succ, upTo_succ, (cntsG _ _ _).1, (cntsL _ _ _).1]; split <;> split <;> omega
        exact this _
      have h2 : nGt (upTo (fun i => 0 - l.getD i 0) l.length) (0 - b) ≤ nLt (upTo (fun i => l.getD i 0) l.length) b := by
        have : ∀ k : Nat, nGt (upTo (fun i => 0 - l.getD i 0) k) (0 - b) ≤ nLt (upTo (fun i => l.getD i 0) k) b := by
          intro k
          induction k with
          | zero => exact Nat.le_refl _
          | succ k ih => rw [upTo_succ, upTo_succ, (cntsG _ _ _).2, (cntsL _ _ _).2]; split <;> split <;> omega
        exact this _
      rw [upTo_self] at h1 h2
      have := hb.1; have := hb.2
      exact ⟨by omega, by omega⟩
  omega
/-- Between the ends. -/
theorem mid_counts (l : List Int) (h : 4 ≤ l.length) : 2 ≤ nLe l (midI l) ∧ 1 ≤ nGe l (midI l) := by
  obtain ⟨b, y, hb, hy, e⟩ := midI_is h
  have hby := Sec.le hb hy (by omega)
  have h1 := nLe_le l (show b ≤ midI l by omega)
  have h2 := nGe_ge l (show midI l ≤ y by omega)
  have := hb.1; have := hy.1
  exact ⟨by omega, by omega⟩
/-- One number more, whatever it is. -/
theorem mid_one (l : List Int) (x : Int) (k : Nat) (a z : Int) (h : 3 ≤ l.length) (ha : ∀ v ∈ l, a ≤ v) (hz : ∀ v ∈ l, v ≤ z) : a ≤ midI (l.take k ++ [x] ++ l.drop k) ∧ midI (l.take k ++ [x] ++ l.drop k) ≤ z := by
  have hp : (l.take k ++ [x] ++ l.drop k).Perm (x :: l) := by
    have h1 : (l.take k ++ [x] ++ l.drop k).Perm (([x] ++ l.take k) ++ l.drop k) := List.Perm.append_right _ List.perm_append_comm
    have h2 : ([x] ++ l.take k) ++ l.drop k = x :: l := by rw [List.append_assoc, List.take_append_drop]; rfl
    rw [h2] at h1
    exact h1
  have hl : 4 ≤ (l.take k ++ [x] ++ l.drop k).length := by rw [hp.length_eq, List.length_cons]; omega
  have hm := (midI_is hl).perm hp.symm
  obtain ⟨b, y, hb, hy, e⟩ := hm
  have hby := Sec.le hb hy (by rw [List.length_cons]; omega)
  have b1 := hb.1
  have y1 := hy.1
  rw [nLe_cons] at b1
  rw [nGe_cons] at y1
  have p1 : 0 < nLe l b := by revert b1; split <;> omega
  have p2 : 0 < nGe l y := by revert y1; split <;> omega
  obtain ⟨v, hv, q⟩ := List.countP_pos_iff.1 p1
  obtain ⟨u, hu, r⟩ := List.countP_pos_iff.1 p2
  have := ha v hv
  have := hz u hu
  simp at q r
  omega
/-- Two rows of readings. -/
theorem mid_two (l : List Int) (p q : Nat → Int) (x y e a z : Int) (h : 4 ≤ l.length) (ha : ∀ v ∈ l, a ≤ v) (hz : ∀ v ∈ l, v ≤ z) (hp : ∀ i, -e ≤ p i ∧ p i ≤ e) (hq : ∀ i, -e ≤ q i ∧ q i ≤ e) :
    2 * (midI (upTo (fun i => l.getD i 0 + p i) l.length ++ [x]) - midI (upTo (fun i => l.getD i 0 + q i) l.length ++ [y])) ≤ z - a + 4 * e + 2 := by
  obtain ⟨s, g, hs, hg, _⟩ := midI_is h
  have hsg := Sec.le hs hg (by omega)
  have ht : 4 ≤ (upTo (fun i => l.getD i 0 + p i) l.length ++ [x]).length := by rw [List.length_append, upTo_len]; simp; omega
  have hu : 4 ≤ (upTo (fun i => l.getD i 0 + q i) l.length ++ [y]).length := by rw [List.length_append, upTo_len]; simp; omega
  obtain ⟨b1, y1, hb1, hy1, e1⟩ := midI_is ht
  obtain ⟨b2, y2, hb2, hy2, e2⟩ := midI_is hu
  have hin : ∀ i, i < l.length → a ≤ l.getD i 0 ∧ l.getD i 0 ≤ z := fun i hi => by
    have : l.getD i 0 ∈ l := by simp [hi]
    exact ⟨ha _ this, hz _ this⟩
  -- the upper ends of the first, the lower ends of the second
  have u1 : b1 ≤ s + e := hb1.le (by
    rw [(cntsL _ _ _).1]
    have := upTo_nLe (f := fun i => l.getD i 0) (g := fun i => l.getD i 0 + p i) (c := s) (d := s + e) l.length fun i _ r => by have := hp i; omega
    rw [upTo_self] at this
    have := hs.1
    omega)
  have u2 : y1 ≤ z + e := by
    have := hy1.1
    rw [(cntsG _ _ _).1] at this
    have p2 : 0 < nGe (upTo (fun i => l.getD i 0 + p i) l.length) y1 := by revert this; split <;> omega
    obtain ⟨v, hv, r⟩ := List.countP_pos_iff.1 p2
    obtain ⟨i, hi, rfl⟩ := upTo_mem hv
    have := hin i hi
    have := hp i
    have r := of_decide_eq_true r
    omega
  have l1 : a - e ≤ b2 := by
    have := hb2.1
    rw [(cntsL _ _ _).1] at this
    have p2 : 0 < nLe (upTo (fun i => l.getD i 0 + q i) l.length) b2 := by revert this; split <;> omega
    obtain ⟨v, hv, r⟩ := List.countP_pos_iff.1 p2
    obtain ⟨i, hi, rfl⟩ := upTo_mem hv
    have := hin i hi
    have := hq i
    have r := of_decide_eq_true r
    omega
  have l2 : g - e ≤ y2 := hy2.ge (by
    rw [(cntsG _ _ _).1]
    have := upTo_nGe (f := fun i => l.getD i 0) (g := fun i => l.getD i 0 + q i) (c := g) (d := g - e) l.length fun i _ r => by have := hq i; omega
    rw [upTo_self] at this
    have := hg.1
    omega)
  omega
/-- One number greater. -/
theorem mid_rises (l : List Int) (g : Nat → Int) (h : 4 ≤ l.length) (hg : ∀ i, l.getD i 0 ≤ g i) : midI l ≤ midI (upTo g l.length) := by
  obtain ⟨b, y, hb, hy, e⟩ := midI_is h
  obtain ⟨b2, y2, hb2, hy2, e2⟩ := midI_is (l := upTo g l.length) (by rw [upTo_len]; exact h)
  have h1 : b ≤ b2 := hb.le (by
    have := upTo_nLe (f := g) (g := fun i => l.getD i 0) (c := b2) (d := b2) l.length fun i _ r => by have := hg i; omega
    rw [upTo_self] at this
    have := hb2.1
    omega)
  have h2 : y ≤ y2 := hy2.ge (by
    have := upTo_nGe (f := fun i => l.getD i 0) (g := g) (c := y) (d := y) l.length fun i _ r => by have := hg i; omega
    rw [upTo_self] at this
    have := hy.1
    omega)
  omega
/-- Turned about its place. -/
theorem rot_perm (l : List Int) (k : Nat) (h : k < l.length) : (upTo (fun i => l.getD ((i + k) % l.length) 0) l.length).Perm l := by
  have e : upTo (fun i => l.getD ((i + k) % l.length) 0) l.length = l.drop k ++ l.take k := by
    apply List.ext_getElem
    · rw [upTo_len]; simp; omega
    · intro i h1 h2
      rw [upTo_get]
      rw [upTo_len] at h1
      rw [List.getElem_append]
      simp only [List.length_drop]
      split
      · rename_i q
        rw [Nat.mod_eq_of_lt (by omega), List.getElem_drop]
        rw [List.getD_eq_getElem?_getD, List.getElem?_eq_getElem (by omega)]
        simp [Nat.add_comm]
      · rename_i q
        have : (i + k) % l.length = i - (l.length - k) := by
          rw [Nat.mod_eq_sub_mod (by omega), Nat.mod_eq_of_lt (by omega)]
          omega
        rw [List.getElem_take, this, List.getD_eq_getElem?_getD, List.getElem?_eq_getElem (by omega)]
        simp
  rw [e]
  have := @List.perm_append_comm _ (l.drop k) (l.take k)
  rw [List.take_append_drop] at this
  exact this
/-- Two places changed over. -/
theorem swap_perm (ys : List Int) (i j : Nat) (hi : i < ys.length) (hj : j < ys.length) : ((ys.set i ys[j]).set j ys[i]).Perm ys := by
  rw [List.perm_iff_count]
  intro a
  have c1 := List.countP_set (p := (· == a)) (l := ys) (a := ys[j]) hi
  have c2 := List.countP_set (p := (· == a)) (l := ys.set i ys[j]) (a := ys[i]) (i := j) (by simpa using hj)
  have p1 : (if (ys[i] == a) = true then 1 else 0) ≤ ys.countP (· == a) := by
    split
    · rename_i q
      exact List.countP_pos_iff.2 ⟨_, List.getElem_mem hi, q⟩
    · omega
  have g : (ys.set i ys[j])[j]'(by simpa using hj) = ys[j] := by
    rw [List.getElem_set]
    split <;> rfl
  rw [g] at c2
  unfold List.count
  rw [c2, c1]
  revert p1
  split <;> split <;> intro p1 <;> omega

end Plait

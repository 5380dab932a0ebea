/-
  Plain mathematics of symbols: texts as lists of bytes, with no program in it: the longest stream at a text's front, common fronts, turned symbols, bits and numbers.
-/
namespace Plait

/-- How many bytes at the front are a stream. -/
def slen : List UInt8 → Nat
  | [] => 0
  | c :: l => if c = 35 then 1 else if c = 48 ∨ c = 49 then slen l + 1 else 0

theorem slen_le : ∀ l, slen l ≤ l.length
  | [] => by simp [slen]
  | c :: l => by
    have := slen_le l
    simp only [slen, List.length_cons]
    split
    · omega
    · split <;> omega

def clean (l : List UInt8) : List UInt8 := l.take (slen l)

/-- Is it a bit? -/
def bitB (c : UInt8) : Bool := c == 48 || c == 49

/-- All of the first k bytes are bits: the stream goes on behind them. -/
theorem slen_bits : ∀ (k : Nat) (l : List UInt8), k ≤ l.length → (∀ c ∈ l.take k, bitB c = true) → slen l = k + slen (l.drop k)
  | 0, l, _, _ => by simp
  | k + 1, [], h, _ => by simp at h
  | k + 1, c :: l, h, hb => by
    have hc : bitB c = true := hb c (by simp)
    have ih := slen_bits k l (by simpa using h) (fun d hd => hb d (by simp [hd]))
    simp [bitB] at hc
    have h35 : ¬ c = 35 := by rintro rfl; simp at hc
    simp only [slen, if_neg h35, if_pos hc, List.drop_succ_cons, ih]
    omega

theorem slen_at_tail (l : List UInt8) (k : Nat) (hk : k < l.length) (hb : ∀ c ∈ l.take k, bitB c = true) (h : l[k] = 35) : slen l = k + 1 := by
  rw [slen_bits k l (by omega) hb, List.drop_eq_getElem_cons hk, h]
  simp [slen]

theorem slen_at_other (l : List UInt8) (k : Nat) (hk : k < l.length) (hb : ∀ c ∈ l.take k, bitB c = true) (h : l[k] ≠ 35) (h' : bitB l[k] = false) : slen l = k := by
  rw [slen_bits k l (by omega) hb, List.drop_eq_getElem_cons hk]
  simp [bitB] at h'
  simp [slen, h, h']

theorem slen_at_end (l : List UInt8) (hb : ∀ c ∈ l.take l.length, bitB c = true) : slen l = l.length := by
  have := slen_bits l.length l (Nat.le_refl _) hb
  simpa [slen] using this

theorem bits_snoc (l : List UInt8) (k : Nat) (hk : k < l.length) (hb : ∀ c ∈ l.take k, bitB c = true) (h : bitB l[k] = true) : ∀ c ∈ l.take (k + 1), bitB c = true := by
  intro c hc
  rw [List.take_succ_eq_append_getElem hk] at hc
  rcases List.mem_append.1 hc with hc | hc
  · exact hb c hc
  · simp at hc; rw [hc]; exact h

/-- How long the front is that two texts have. -/
def comm : List UInt8 → List UInt8 → Nat
  | a :: l, b :: m => if a = b then comm l m + 1 else 0
  | _, _ => 0

def common (l m : List UInt8) : List UInt8 := l.take (comm l m)

theorem comm_le_left : ∀ l m, comm l m ≤ l.length
  | [], m => by simp [comm]
  | a :: l, [] => by simp [comm]
  | a :: l, b :: m => by
    have := comm_le_left l m
    simp only [comm, List.length_cons]
    split <;> omega

theorem comm_le_right : ∀ l m, comm l m ≤ m.length
  | [], m => by simp [comm]
  | a :: l, [] => by simp [comm]
  | a :: l, b :: m => by
    have := comm_le_right l m
    simp only [comm, List.length_cons]
    split <;> omega

theorem comm_drop : ∀ (k : Nat) (l m : List UInt8), k ≤ l.length → k ≤ m.length → l.take k = m.take k → comm l m = k + comm (l.drop k) (m.drop k)
  | 0, l, m, _, _, _ => by simp
  | k + 1, [], m, h, _, _ => by simp at h
  | k + 1, a :: l, [], _, h, _ => by simp at h
  | k + 1, a :: l, b :: m, h1, h2, h => by
    simp only [List.take_succ_cons, List.cons.injEq] at h
    have ih := comm_drop k l m (by simpa using h1) (by simpa using h2) h.2
    simp only [comm, if_pos h.1, List.drop_succ_cons, ih]
    omega

theorem comm_stop (k : Nat) (l m : List UInt8) (h1 : k < l.length) (h2 : k < m.length) (h : l.take k = m.take k) (hne : l[k] ≠ m[k]) : comm l m = k := by
  rw [comm_drop k l m (by omega) (by omega) h, List.drop_eq_getElem_cons h1, List.drop_eq_getElem_cons h2]
  simp [comm, hne]

theorem comm_out_left (k : Nat) (l m : List UInt8) (h1 : k = l.length) (h2 : k ≤ m.length) (h : l.take k = m.take k) : comm l m = k := by
  rw [comm_drop k l m (by omega) h2 h, List.drop_of_length_le (by omega)]
  simp [comm]

theorem comm_out_right (k : Nat) (l m : List UInt8) (h1 : k ≤ l.length) (h2 : k = m.length) (h : l.take k = m.take k) : comm l m = k := by
  rw [comm_drop k l m h1 (by omega) h, List.drop_of_length_le (l := m) (by omega)]
  cases l.drop k <;> simp [comm]

theorem take_snoc_eq (k : Nat) (l m : List UInt8) (h1 : k < l.length) (h2 : k < m.length) (h : l.take k = m.take k) (he : l[k] = m[k]) : l.take (k + 1) = m.take (k + 1) := by
  rw [List.take_succ_eq_append_getElem h1, List.take_succ_eq_append_getElem h2, h, he]

/-- A symbol turned. -/
def other (c : UInt8) : UInt8 := if c = 48 then 49 else if c = 49 then 48 else if c = 35 then 48 else c

def turn (l : List UInt8) (at_ : Int) : List UInt8 := if 0 ≤ at_ ∧ at_ < l.length then l.set at_.toNat (other (l.getD at_.toNat 0)) else l

def frontB (l m : List UInt8) : Bool := l.isPrefixOf m

def wholeB (l : List UInt8) : Bool := l.getLast? == some 35 && slen l == l.length

/-- The bit of n at the place that is i from the front, of size places. -/
def bitAt (n : Int) (size i : Nat) : UInt8 := if n / 2 ^ (size - 1 - i) % 2 = 1 then 49 else 48

theorem bitAt_toNat (n : Int) (size i : Nat) : ((bitAt n size i).toNat : Int) = 48 + n / 2 ^ (size - 1 - i) % 2 := by
  have h : n / 2 ^ (size - 1 - i) % 2 = 0 ∨ n / 2 ^ (size - 1 - i) % 2 = 1 := by omega
  unfold bitAt
  rcases h with h | h <;> simp [h]

def bitsL (n : Int) (size : Nat) : List UInt8 := (List.range size).map (bitAt n size)

theorem bitsL_length (n : Int) (size : Nat) : (bitsL n size).length = size := by simp [bitsL]

def bitsI (n size : Int) : List UInt8 := if 1 ≤ size ∧ size ≤ 62 then bitsL n size.toNat else []

theorem bitsL_get (n : Int) (size i : Nat) (h : i < (bitsL n size).length) : (bitsL n size)[i] = bitAt n size i := by simp [bitsL]

/-- What bits mean, the highest first. -/
def numV (l : List UInt8) : Nat := l.foldl (fun a c => 2 * a + if c = 49 then 1 else 0) 0

theorem numV_snoc (l : List UInt8) (c : UInt8) : numV (l ++ [c]) = 2 * numV l + if c = 49 then 1 else 0 := by simp [numV]

theorem foldl_lt : ∀ (l : List UInt8) (a n : Nat), a < 2 ^ n → l.foldl (fun a c => 2 * a + if c = 49 then 1 else 0) a < 2 ^ (n + l.length)
  | [], a, n, h => by simpa using h
  | c :: l, a, n, h => by
    have h' : 2 * a + (if c = 49 then 1 else 0) < 2 ^ (n + 1) := by rw [Nat.pow_succ]; split <;> omega
    have := foldl_lt l _ (n + 1) h'
    simp only [List.foldl_cons, List.length_cons]
    rw [show n + (l.length + 1) = n + 1 + l.length by omega]
    exact this

theorem numV_lt (l : List UInt8) : numV l < 2 ^ l.length := by
  have := foldl_lt l 0 0 (by simp)
  simpa [numV] using this

def numOk (l : List UInt8) : Bool := decide (1 ≤ l.length) && decide (l.length ≤ 62) && l.all bitB

/-- The laws' texts: a symbol, or another sign, of each number. -/
def signs : List UInt8 := [48, 49, 48, 49, 48, 49, 48, 49, 35, 46, 120]
def signOf (z : Int) : UInt8 := signs.getD (z % 11).toNat 0
def textL (zs : List Int) : List UInt8 := (zs.take 80).map signOf

theorem textL_length (zs : List Int) : (textL zs).length ≤ 80 := by simp [textL]; omega

end Plait

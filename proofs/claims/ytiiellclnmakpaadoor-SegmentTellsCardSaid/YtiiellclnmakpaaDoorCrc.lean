/- Plain mathematics of the CRC-32, over natural numbers: no program, no memory. -/
import Derived.IntWalk
namespace Go.Proofs.YtiiellclnmakpaaDoor.Crc

def P : Nat := 3988292384
def stp (r : Nat) : Nat := r / 2 ^^^ (if r % 2 = 1 then P else 0)
def stpN : Nat → Nat → Nat
  | 0, r => r
  | n + 1, r => stpN n (stp r)
def dn (r : Nat) : Nat := stpN 8 r
/-- One byte, by the table. -/
def byT (r c : Nat) : Nat := dn ((r % 256) ^^^ c) ^^^ (r / 256)
/-- One byte, bit by bit. -/
def byB (r c : Nat) : Nat := stpN 8 (r ^^^ c)
def fold (r : Nat) (bs : List Nat) : Nat := bs.foldl byT r
def neg (r : Nat) : Nat := 4294967295 - r
def more (s : Nat) (bs : List Nat) : Nat := neg (fold (neg s) bs)

theorem xor_div (a b : Nat) : (a ^^^ b) / 2 = (a / 2) ^^^ (b / 2) := by
  have := Nat.xor_div_two_pow (a := a) (b := b) (n := 1)
  simpa using this
theorem xor_mod (a b : Nat) : (a ^^^ b) % 2 = (a % 2 + b % 2) % 2 := by
  have := Nat.xor_mod_two_pow (a := a) (b := b) (n := 1)
  have h : (a ^^^ b) % 2 = (a % 2) ^^^ (b % 2) := by simpa using this
  rw [h]
  rcases Nat.mod_two_eq_zero_or_one a with h1 | h1 <;> rcases Nat.mod_two_eq_zero_or_one b with h2 | h2 <;> simp [h1, h2]
theorem xor_lt {a b : Nat} (n : Nat) (ha : a < 2 ^ n) (hb : b < 2 ^ n) : a ^^^ b < 2 ^ n := Nat.xor_lt_two_pow ha hb
theorem xor_lt32 {a b : Nat} (ha : a < 4294967296) (hb : b < 4294967296) : a ^^^ b < 4294967296 := Nat.xor_lt_two_pow (n := 32) ha hb
theorem xor_lt8 {a b : Nat} (ha : a < 256) (hb : b < 256) : a ^^^ b < 256 := Nat.xor_lt_two_pow (n := 8) ha hb

theorem xor4 (a b c d : Nat) : (a ^^^ b) ^^^ (c ^^^ d) = (a ^^^ c) ^^^ (b ^^^ d) := by
  rw [Nat.xor_assoc, Nat.xor_assoc, ← Nat.xor_assoc b c d, Nat.xor_comm b c, Nat.xor_assoc c b d]

theorem stp_xor (a b : Nat) : stp (a ^^^ b) = stp a ^^^ stp b := by
  unfold stp
  rw [xor_div, xor_mod, xor4]
  congr 1
  rcases Nat.mod_two_eq_zero_or_one a with h1 | h1 <;> rcases Nat.mod_two_eq_zero_or_one b with h2 | h2 <;> simp [h1, h2]
theorem stp_lt {r : Nat} (h : r < 4294967296) : stp r < 4294967296 := by
  unfold stp
  refine xor_lt32 (by omega) ?_
  split <;> simp [P]
theorem stpN_xor (n : Nat) : ∀ a b, stpN n (a ^^^ b) = stpN n a ^^^ stpN n b := by
  induction n with
  | zero => intro a b; rfl
  | succ n ih => intro a b; simp only [stpN]; rw [stp_xor, ih]
theorem stpN_lt (n : Nat) : ∀ {r : Nat}, r < 4294967296 → stpN n r < 4294967296 := by
  induction n with
  | zero => intro r h; exact h
  | succ n ih => intro r h; exact ih (stp_lt h)
theorem stpN_add (m n : Nat) : ∀ r, stpN (m + n) r = stpN n (stpN m r) := by
  induction m with
  | zero => intro r; simp [stpN]
  | succ m ih => intro r; rw [Nat.succ_add]; simp only [stpN]; exact ih _
theorem stpN_last (n r : Nat) : stpN (n + 1) r = stp (stpN n r) := by
  rw [stpN_add n 1]; rfl
theorem stpN_even (n : Nat) : ∀ k, stpN n (2 ^ n * k) = k := by
  induction n with
  | zero => intro k; simp [stpN]
  | succ n ih =>
    intro k
    have h : stp (2 ^ (n + 1) * k) = 2 ^ n * k := by
      unfold stp
      have e : 2 ^ (n + 1) * k = 2 * (2 ^ n * k) := by rw [Nat.pow_succ]; simp [Nat.mul_comm, Nat.mul_left_comm]
      rw [e]
      simp
    simp only [stpN]
    rw [h, ih]
theorem dn_lt {r : Nat} (h : r < 4294967296) : dn r < 4294967296 := stpN_lt 8 h

theorem split256 (r : Nat) : r = (r % 256) ^^^ (256 * (r / 256)) := by
  have h1 : (r % 256) ^^^ (256 * (r / 256)) = (r % 256) ||| (256 * (r / 256)) := by
    apply Nat.eq_of_testBit_eq
    intro i
    rw [Nat.testBit_xor, Nat.testBit_or]
    by_cases hi : i < 8
    · have : (256 * (r / 256)).testBit i = false := by
        rw [show (256 : Nat) * (r / 256) = 2 ^ 8 * (r / 256) from rfl, Nat.testBit_two_pow_mul]
        simp; omega
      rw [this]; simp
    · have : (r % 256).testBit i = false := Nat.testBit_lt_two_pow (Nat.lt_of_lt_of_le (Nat.mod_lt _ (by decide)) (Nat.pow_le_pow_right (n := 2) (by decide) (show 8 ≤ i by omega)))
      rw [this]; simp
  have h2 : (r % 256) ||| (256 * (r / 256)) = 256 * (r / 256) + r % 256 := by
    have := Nat.two_pow_add_eq_or_of_lt (i := 8) (b := r % 256) (by have := Nat.mod_lt r (show 0 < 256 by decide); simpa using this) (r / 256)
    simp only [show (2 : Nat) ^ 8 = 256 from rfl] at this
    rw [Nat.or_comm]; exact this.symm
  rw [h1, h2]; omega

theorem byT_eq (r c : Nat) : byT r c = byB r c := by
  unfold byT byB
  have e : r ^^^ c = ((r % 256) ^^^ c) ^^^ (2 ^ 8 * (r / 256)) := by
    conv => lhs; rw [split256 r]
    rw [Nat.xor_assoc, Nat.xor_comm (256 * (r / 256)) c, ← Nat.xor_assoc]
  rw [e, stpN_xor, stpN_even]; rfl
theorem byT_lt {r c : Nat} (hr : r < 4294967296) (hc : c < 256) : byT r c < 4294967296 := by
  rw [byT_eq]; exact stpN_lt 8 (xor_lt32 hr (by omega))
theorem fold_lt : ∀ {bs : List Nat} {r : Nat}, r < 4294967296 → (∀ c ∈ bs, c < 256) → fold r bs < 4294967296 := by
  intro bs
  induction bs with
  | nil => intro r h _; exact h
  | cons c bs ih => intro r h hc; exact ih (byT_lt h (hc c (by simp))) (fun x hx => hc x (by simp [hx]))
theorem fold_append (r : Nat) (a b : List Nat) : fold r (a ++ b) = fold (fold r a) b := by simp [fold]
theorem fold_snoc (r : Nat) (a : List Nat) (c : Nat) : fold r (a ++ [c]) = byT (fold r a) c := by simp [fold]
theorem neg_lt (r : Nat) : neg r < 4294967296 := by unfold neg; omega
theorem neg_neg {r : Nat} (h : r < 4294967296) : neg (neg r) = r := by unfold neg; omega
theorem neg_inj {a b : Nat} (ha : a < 4294967296) (hb : b < 4294967296) (h : neg a = neg b) : a = b := by unfold neg at h; omega
theorem more_lt (s : Nat) (bs : List Nat) : more s bs < 4294967296 := neg_lt _

/-- P2.2 -/
theorem more_append (s : Nat) (a b : List Nat) (ha : ∀ c ∈ a, c < 256) : more s (a ++ b) = more (more s a) b := by
  unfold more
  rw [fold_append, neg_neg (fold_lt (neg_lt _) ha)]
theorem more_nil {s : Nat} (h : s < 4294967296) : more s [] = s := neg_neg h

theorem neg_xor {r : Nat} (h : r < 4294967296) : neg r = r ^^^ 4294967295 := by
  unfold neg
  have h1 : (2 ^ 32 - 1) - r = r ^^^ (2 ^ 32 - 1) := by
    apply Nat.eq_of_testBit_eq
    intro i
    rw [Nat.testBit_xor, Nat.testBit_two_pow_sub_one, Nat.sub_sub, Nat.add_comm 1 r, ]
    rw [Nat.testBit_two_pow_sub_succ (by simpa using h)]
    by_cases hi : i < 32
    · simp [hi]
    · have : r.testBit i = false := Nat.testBit_lt_two_pow (Nat.lt_of_lt_of_le h (Nat.pow_le_pow_right (n := 2) (by decide) (show 32 ≤ i by omega)))
      simp [hi, this]
  simpa using h1

/-- Xor of three rows, place by place. -/
def xor3 : List Nat → List Nat → List Nat → List Nat
  | a :: as, b :: bs, c :: cs => (a ^^^ b ^^^ c) :: xor3 as bs cs
  | _, _, _ => []
theorem byB_xor (r s c d : Nat) : byB (r ^^^ s) (c ^^^ d) = byB r c ^^^ byB s d := by
  unfold byB; rw [xor4, stpN_xor]
theorem fold_xor3 : ∀ (as bs cs : List Nat) (x y z : Nat), as.length = bs.length → as.length = cs.length →
    fold (x ^^^ y ^^^ z) (xor3 as bs cs) = fold x as ^^^ fold y bs ^^^ fold z cs := by
  intro as
  induction as with
  | nil =>
    intro bs cs x y z h1 h2
    have : bs = [] := List.eq_nil_of_length_eq_zero (by simpa using h1.symm)
    have : cs = [] := List.eq_nil_of_length_eq_zero (by simpa using h2.symm)
    subst bs cs; rfl
  | cons a as ih =>
    intro bs cs x y z h1 h2
    match bs, cs, h1, h2 with
    | b :: bs, c :: cs, h1, h2 =>
      simp only [xor3, fold, List.foldl_cons] at *
      rw [byT_eq, byT_eq x, byT_eq y, byT_eq z, byB_xor, byB_xor]
      exact ih bs cs _ _ _ (by simpa using h1) (by simpa using h2)
theorem xor3_length : ∀ (as bs cs : List Nat), as.length = bs.length → as.length = cs.length → (xor3 as bs cs).length = as.length := by
  intro as
  induction as with
  | nil => intro bs cs _ _; simp [xor3]
  | cons a as ih =>
    intro bs cs h1 h2
    match bs, cs, h1, h2 with
    | b :: bs, c :: cs, h1, h2 => simp only [xor3, List.length_cons]; rw [ih bs cs (by simpa using h1) (by simpa using h2)]
theorem xor3_get : ∀ (as bs cs : List Nat) (k : Nat), k < as.length → as.length = bs.length → as.length = cs.length → (xor3 as bs cs).getD k 0 = as.getD k 0 ^^^ bs.getD k 0 ^^^ cs.getD k 0 := by
  intro as
  induction as with
  | nil => intro bs cs k hk; simp at hk
  | cons a as ih =>
    intro bs cs k hk h1 h2
    match bs, cs, h1, h2 with
    | b :: bs, c :: cs, h1, h2 =>
      cases k with
      | zero => simp [xor3]
      | succ k => simpa [xor3] using ih bs cs k (by simpa using hk) (by simpa using h1) (by simpa using h2)
/-- What was filled place by place is the row. -/
theorem xor3_of (us xs ys zs : List Nat) (n : Nat) (hu : us.length = n) (hx : n ≤ xs.length) (hy : n ≤ ys.length) (hz : n ≤ zs.length)
    (h : ∀ j, j < n → us.getD j 0 = xs.getD j 0 ^^^ ys.getD j 0 ^^^ zs.getD j 0) : us = xor3 (xs.take n) (ys.take n) (zs.take n) := by
  have l1 : (xs.take n).length = n := by rw [List.length_take]; omega
  have l2 : (ys.take n).length = n := by rw [List.length_take]; omega
  have l3 : (zs.take n).length = n := by rw [List.length_take]; omega
  have lx := xor3_length (xs.take n) (ys.take n) (zs.take n) (by omega) (by omega)
  apply List.ext_getElem (by omega)
  intro j h1 h2
  have e1 := h j (by omega)
  have e2 := xor3_get (xs.take n) (ys.take n) (zs.take n) j (by omega) (by omega) (by omega)
  have tk : ∀ l : List Nat, (l.take n).getD j 0 = l.getD j 0 := by
    intro l
    rw [List.getD_eq_getElem?_getD, List.getD_eq_getElem?_getD, List.getElem?_take_of_lt (by omega)]
  rw [tk, tk, tk, ← e1] at e2
  rw [List.getD_eq_getElem?_getD, List.getD_eq_getElem?_getD, List.getElem?_eq_getElem h2, List.getElem?_eq_getElem h1] at e2
  exact e2.symm
/-- P2.4 -/
theorem more_xor3 (as bs cs : List Nat) (h1 : as.length = bs.length) (h2 : as.length = cs.length)
    (ha : ∀ c ∈ as, c < 256) (hb : ∀ c ∈ bs, c < 256) (hc : ∀ c ∈ cs, c < 256) :
    more 0 (xor3 as bs cs) = more 0 as ^^^ more 0 bs ^^^ more 0 cs := by
  have e := fold_xor3 as bs cs 4294967295 4294967295 4294967295 h1 h2
  simp only [show 4294967295 ^^^ 4294967295 ^^^ 4294967295 = 4294967295 from rfl] at e
  have fa := fold_lt (r := 4294967295) (by decide) ha
  have fb := fold_lt (r := 4294967295) (by decide) hb
  have fc := fold_lt (r := 4294967295) (by decide) hc
  unfold more
  simp only [show neg 0 = 4294967295 from rfl]
  rw [e, neg_xor (xor_lt32 (xor_lt32 fa fb) fc), neg_xor fa, neg_xor fb, neg_xor fc]
  generalize fold 4294967295 as = A
  generalize fold 4294967295 bs = B
  generalize fold 4294967295 cs = C
  rw [xor4 A, Nat.xor_self, Nat.xor_zero, Nat.xor_assoc (A ^^^ B) C]

/-- P2.1: its own sum behind it. -/
theorem e8 (x c : Nat) : stpN 8 x ^^^ c = stpN 8 (x ^^^ 256 * c) := by
  have h := stpN_even 8 c
  simp only [show (2 : Nat) ^ 8 = 256 from rfl] at h
  rw [stpN_xor, h]
theorem mul_xor (x y : Nat) : 256 * (x ^^^ y) = 256 * x ^^^ 256 * y := by
  have h := Nat.shiftLeft_xor_distrib (a := x) (b := y) (i := 8)
  simp only [Nat.shiftLeft_eq, show (2 : Nat) ^ 8 = 256 from rfl] at h
  rw [Nat.mul_comm 256, h, Nat.mul_comm x, Nat.mul_comm y]
theorem four (R b0 b1 b2 b3 : Nat) : byT (byT (byT (byT R b0) b1) b2) b3 = stpN 32 (R ^^^ (b0 ^^^ 256 * (b1 ^^^ 256 * (b2 ^^^ 256 * b3)))) := by
  rw [byT_eq, byT_eq, byT_eq, byT_eq]
  unfold byB
  rw [show (32 : Nat) = 8 + 24 from rfl, stpN_add 8 24, ← Nat.xor_assoc, ← e8, show (24 : Nat) = 8 + 16 from rfl, stpN_add 8 16, ← Nat.xor_assoc, ← e8,
    show (16 : Nat) = 8 + 8 from rfl, stpN_add 8 8, ← Nat.xor_assoc, ← e8]
/-- The bytes of a number of 32 bits, the lowest first. -/
def le32 (s : Nat) : List Nat := [s % 256, s / 256 % 256, s / 65536 % 256, s / 16777216 % 256]
theorem le32_join {s : Nat} (h : s < 4294967296) : s % 256 ^^^ 256 * (s / 256 % 256 ^^^ 256 * (s / 65536 % 256 ^^^ 256 * (s / 16777216 % 256))) = s := by
  have h3 : s / 16777216 % 256 = s / 16777216 := by omega
  rw [h3]
  have e2 := split256 (s / 65536)
  rw [Nat.div_div_eq_div_mul] at e2
  rw [← e2]
  have e1 := split256 (s / 256)
  rw [Nat.div_div_eq_div_mul] at e1
  rw [← e1]
  exact (split256 s).symm
theorem more_zero (a : List Nat) (ha : ∀ c ∈ a, c < 256) : more 0 (a ++ le32 (more 0 a)) = 558161692 := by
  have hf := fold_lt (r := neg 0) (by decide) ha
  have e : fold (neg 0) (a ++ le32 (more 0 a)) = stpN 32 4294967295 := by
    rw [fold_append]
    show byT (byT (byT (byT _ _) _) _) _ = _
    rw [four, le32_join (more_lt _ _)]
    unfold more
    rw [neg_xor hf, ← Nat.xor_assoc, Nat.xor_self, Nat.zero_xor]
  show neg _ = _
  rw [e]
  decide +kernel

/-- P2.1: two sums that are alike go on alike, and others do not. -/
theorem stp_inj {a b : Nat} (ha : a < 4294967296) (hb : b < 4294967296) (h : stp a = stp b) : a = b := by
  have key : ∀ x, x < 4294967296 → (stp x).testBit 31 = decide (x % 2 = 1) := by
    intro x hx
    unfold stp
    rw [Nat.testBit_xor]
    have h0 : (x / 2).testBit 31 = false := Nat.testBit_lt_two_pow (by omega)
    rw [h0]
    by_cases hp : x % 2 = 1
    · simp [hp]; decide
    · simp [hp]
  have hk : a % 2 = b % 2 := by
    have h1 := key a ha
    have h2 := key b hb
    rw [h, h2] at h1
    rcases Nat.mod_two_eq_zero_or_one a with p | p <;> rcases Nat.mod_two_eq_zero_or_one b with q | q <;> simp_all
  have hd : a / 2 = b / 2 := by
    unfold stp at h
    rw [hk] at h
    have := congrArg (fun t => t ^^^ (if b % 2 = 1 then P else 0)) h
    simpa [Nat.xor_assoc] using this
  omega
theorem stpN_inj (n : Nat) : ∀ {a b : Nat}, a < 4294967296 → b < 4294967296 → stpN n a = stpN n b → a = b := by
  induction n with
  | zero => intro a b _ _ h; exact h
  | succ n ih => intro a b ha hb h; exact stp_inj ha hb (ih (stp_lt ha) (stp_lt hb) h)
theorem byT_inj {a b c : Nat} (ha : a < 4294967296) (hb : b < 4294967296) (hc : c < 256) (h : byT a c = byT b c) : a = b := by
  rw [byT_eq, byT_eq] at h
  have h1 := stpN_inj 8 (xor_lt32 ha (by omega)) (xor_lt32 hb (by omega)) h
  have := congrArg (fun t => t ^^^ c) h1
  simpa [Nat.xor_assoc] using this
theorem fold_inj : ∀ {bs : List Nat} {a b : Nat}, a < 4294967296 → b < 4294967296 → (∀ c ∈ bs, c < 256) → fold a bs = fold b bs → a = b := by
  intro bs
  induction bs with
  | nil => intro a b _ _ _ h; exact h
  | cons c bs ih =>
    intro a b ha hb hc h
    exact byT_inj ha hb (hc c (by simp)) (ih (byT_lt ha (hc c (by simp))) (byT_lt hb (hc c (by simp))) (fun x hx => hc x (by simp [hx])) h)
theorem more_inj {bs : List Nat} {s t : Nat} (hs : s < 4294967296) (ht : t < 4294967296) (hc : ∀ c ∈ bs, c < 256) : more s bs = more t bs ↔ s = t := by
  constructor
  · intro h
    unfold more at h
    have h1 := neg_inj (fold_lt (neg_lt _) hc) (fold_lt (neg_lt _) hc) h
    exact neg_inj hs ht (fold_inj (neg_lt _) (neg_lt _) hc h1)
  · rintro rfl; rfl

/-! The head's fixed answers. -/
theorem head1 : more 0 [49, 50, 51, 52, 53, 54, 55, 56, 57] = 3421780262 := by decide +kernel
theorem head2 : more 0 [0] = 3523407757 := by decide +kernel
theorem head3 : more (more 0 [49, 50, 51, 52, 53]) [54, 55, 56, 57] = 3421780262 := by decide +kernel

/-- The reference, bit by bit, as a fold. -/
def refFold (r : Nat) (bs : List Nat) : Nat := bs.foldl byB r
theorem refFold_eq (r : Nat) (bs : List Nat) : refFold r bs = fold r bs := by
  have : byB = byT := by funext a c; exact (byT_eq a c).symm
  unfold refFold fold; rw [this]
end Go.Proofs.YtiiellclnmakpaaDoor.Crc

/- Frames: plain mathematics: bytes of numbers, bytes of frames, what bytes begin with, what they scan to. -/
import Derived.Test.YtiiellclnmakpaaDoorCrc
namespace Go.Proofs.YtiiellclnmakpaaDoor.Frm
open Crc

/-- The k lowest bytes of n, the greater parts first. -/
def be : Nat → Nat → List Nat
  | 0, _ => []
  | k + 1, n => n / 256 ^ k % 256 :: be k n
def val (bs : List Nat) : Nat := bs.foldl (fun v c => v * 256 + c) 0

theorem be_len (k n : Nat) : (be k n).length = k := by
  induction k with
  | zero => rfl
  | succ k ih => simp [be, ih]
theorem be_byte (k n : Nat) : ∀ c ∈ be k n, c < 256 := by
  induction k with
  | zero => intro c hc; cases hc
  | succ k ih =>
    intro c hc
    rcases List.mem_cons.1 hc with rfl | h
    · exact Nat.mod_lt _ (by decide)
    · exact ih c h
theorem val_from (bs : List Nat) : ∀ v, bs.foldl (fun v c => v * 256 + c) v = v * 256 ^ bs.length + val bs := by
  induction bs with
  | nil => intro v; simp [val]
  | cons c bs ih =>
    intro v
    unfold val
    simp only [List.foldl_cons, List.length_cons]
    rw [ih, ih (0 * 256 + c), Nat.pow_succ, Nat.zero_mul, Nat.zero_add, Nat.add_mul, Nat.add_assoc, Nat.mul_assoc, Nat.mul_comm 256]
theorem val_nil : val [] = 0 := rfl
theorem val_cons (c : Nat) (bs : List Nat) : val (c :: bs) = c * 256 ^ bs.length + val bs := by
  have := val_from bs c
  unfold val at *
  simpa using this
theorem val_snoc (bs : List Nat) (c : Nat) : val (bs ++ [c]) = val bs * 256 + c := by simp [val]
theorem val_lt : ∀ (bs : List Nat), (∀ c ∈ bs, c < 256) → val bs < 256 ^ bs.length := by
  intro bs
  induction bs with
  | nil => intro _; simp [val]
  | cons c bs ih =>
    intro h
    have h1 := ih (fun x hx => h x (by simp [hx]))
    have h2 := h c (by simp)
    rw [val_cons, List.length_cons, Nat.pow_succ]
    have h3 : c * 256 ^ bs.length ≤ 255 * 256 ^ bs.length := Nat.mul_le_mul_right _ (by omega)
    omega
theorem val_be_mod (k n : Nat) : val (be k n) = n % 256 ^ k := by
  induction k with
  | zero => simp [be, val, Nat.mod_one]
  | succ k ih =>
    show val (n / 256 ^ k % 256 :: be k n) = _
    rw [val_cons, be_len, ih, Nat.pow_succ, Nat.mod_mul, Nat.mul_comm (256 ^ k)]
    omega
theorem val_be {k n : Nat} (h : n < 256 ^ k) : val (be k n) = n := by rw [val_be_mod, Nat.mod_eq_of_lt h]
theorem be_add (k : Nat) : ∀ n c, be k (n + c * 256 ^ k) = be k n := by
  induction k with
  | zero => intro n c; rfl
  | succ k ih =>
    intro n c
    have e : c * 256 ^ (k + 1) = (c * 256) * 256 ^ k := by rw [Nat.pow_succ, Nat.mul_assoc, Nat.mul_comm 256]
    show (n + c * 256 ^ (k + 1)) / 256 ^ k % 256 :: be k (n + c * 256 ^ (k + 1)) = n / 256 ^ k % 256 :: be k n
    rw [e, ih, Nat.add_mul_div_right _ _ (Nat.pow_pos (by decide))]
    congr 1
    omega
theorem be_val : ∀ (bs : List Nat), (∀ c ∈ bs, c < 256) → be bs.length (val bs) = bs := by
  intro bs
  induction bs with
  | nil => intro _; rfl
  | cons c bs ih =>
    intro h
    have h1 : ∀ x ∈ bs, x < 256 := fun x hx => h x (by simp [hx])
    have h2 := h c (by simp)
    have h3 := val_lt bs h1
    show val (c :: bs) / 256 ^ bs.length % 256 :: be bs.length (val (c :: bs)) = _
    rw [val_cons, Nat.add_comm, be_add, ih h1, Nat.add_mul_div_right _ _ (Nat.pow_pos (by decide)), Nat.div_eq_of_lt h3]
    congr 1
    omega
theorem val_inj {a b : List Nat} (ha : ∀ c ∈ a, c < 256) (hb : ∀ c ∈ b, c < 256) (hl : a.length = b.length) (h : val a = val b) : a = b := by
  rw [← be_val a ha, ← be_val b hb, hl, h]

/-- A frame, as plain data. -/
structure Fr where
  ty : Int
  seq : Int
  body : List Nat
deriving DecidableEq
def Fr.zero : Fr := ⟨0, 0, []⟩
def Fr.right (f : Fr) : Prop := 1 ≤ f.ty ∧ f.ty ≤ 15 ∧ 0 ≤ f.seq ∧ f.seq ≤ 1073741824 ∧ f.body.length ≤ 1800
instance (f : Fr) : Decidable f.right := by unfold Fr.right; infer_instance
def hd (f : Fr) : List Nat := be 2 f.body.length ++ be 1 f.ty.toNat ++ be 4 f.seq.toNat
def sm (f : Fr) : List Nat := hd f ++ f.body
def raw (f : Fr) : List Nat := sm f ++ be 4 (more 0 (sm f))
def put (f : Fr) : List Nat := if f.right then raw f else []

theorem hd_len (f : Fr) : (hd f).length = 7 := by simp [hd, be_len]
theorem sm_len (f : Fr) : (sm f).length = f.body.length + 7 := by simp [sm, hd_len]; omega
theorem raw_len (f : Fr) : (raw f).length = f.body.length + 11 := by simp [raw, sm_len, be_len]
theorem hd_byte (f : Fr) : ∀ c ∈ hd f, c < 256 := by
  intro c hc
  rcases List.mem_append.1 hc with h | h
  · rcases List.mem_append.1 h with h | h
    · exact be_byte _ _ c h
    · exact be_byte _ _ c h
  · exact be_byte _ _ c h
theorem sm_byte (f : Fr) (hb : ∀ c ∈ f.body, c < 256) : ∀ c ∈ sm f, c < 256 := by
  intro c hc
  rcases List.mem_append.1 hc with h | h
  · exact hd_byte f c h
  · exact hb c h
theorem raw_byte (f : Fr) (hb : ∀ c ∈ f.body, c < 256) : ∀ c ∈ raw f, c < 256 := by
  intro c hc
  rcases List.mem_append.1 hc with h | h
  · exact sm_byte f hb c h
  · exact be_byte _ _ c h
theorem put_byte (f : Fr) (hb : ∀ c ∈ f.body, c < 256) : ∀ c ∈ put f, c < 256 := by
  unfold put; split
  · exact raw_byte f hb
  · intro c hc; cases hc
theorem put_len_le (f : Fr) : (put f).length ≤ 1811 := by
  unfold put; split
  · rename_i h; rw [raw_len]; have := h.2.2.2.2; omega
  · simp

/-- What bytes begin with. -/
def szOf (bs : List Nat) : Nat := val (bs.take 2)
def frOf (bs : List Nat) : Fr := ⟨((bs.getD 2 0 : Nat) : Int), ((val ((bs.take 7).drop 3) : Nat) : Int), (bs.take (szOf bs + 7)).drop 7⟩
def get (bs : List Nat) : Fr × Nat × Nat :=
  if bs.length < 2 then (Fr.zero, 0, 13)
  else if 1800 < szOf bs then (Fr.zero, 0, 12)
  else if bs.length < szOf bs + 11 then (Fr.zero, 0, 13)
  else if val ((bs.take (szOf bs + 11)).drop (szOf bs + 7)) ≠ more 0 (bs.take (szOf bs + 7)) then (Fr.zero, 0, 14)
  else if ¬ (frOf bs).right then (Fr.zero, 0, 12)
  else (frOf bs, szOf bs + 11, 0)

theorem get_err (bs : List Nat) (h : (get bs).2.2 ≠ 0) : get bs = (Fr.zero, 0, (get bs).2.2) := by
  unfold get at *
  split
  · rfl
  split
  · rfl
  split
  · rfl
  split
  · rfl
  split
  · rfl
  · simp_all
theorem get_errs (bs : List Nat) : (get bs).2.2 = 0 ∨ (get bs).2.2 = 12 ∨ (get bs).2.2 = 13 ∨ (get bs).2.2 = 14 := by
  unfold get
  split
  · simp
  split
  · simp
  split
  · simp
  split
  · simp
  split <;> simp

theorem take_two (f : Fr) (t : List Nat) : (raw f ++ t).take 2 = be 2 f.body.length := by
  simp only [raw, sm, hd, List.append_assoc]
  rw [List.take_append_of_le_length (by rw [be_len]; omega), List.take_of_length_le (by rw [be_len]; omega)]
theorem szOf_raw (f : Fr) (h : f.body.length ≤ 1800) (t : List Nat) : szOf (raw f ++ t) = f.body.length := by
  unfold szOf; rw [take_two, val_be (by omega)]
theorem take_sm (f : Fr) (t : List Nat) : (raw f ++ t).take (f.body.length + 7) = sm f := by
  rw [raw, List.append_assoc, List.take_append_of_le_length (by rw [sm_len]; omega), List.take_of_length_le (by rw [sm_len]; omega)]
theorem take_raw (f : Fr) (t : List Nat) : (raw f ++ t).take (f.body.length + 11) = raw f := by
  rw [List.take_append_of_le_length (by rw [raw_len]; omega), List.take_of_length_le (by rw [raw_len]; omega)]
theorem drop_sum (f : Fr) : (raw f).drop (f.body.length + 7) = be 4 (more 0 (sm f)) := by
  rw [raw, List.drop_append_of_le_length (by rw [sm_len]; omega), List.drop_of_length_le (by rw [sm_len]; omega)]; rfl
theorem body_of (f : Fr) : (sm f).drop 7 = f.body := by
  rw [sm, List.drop_append_of_le_length (by rw [hd_len]; omega), List.drop_of_length_le (by rw [hd_len]; omega)]; rfl
theorem seq_of (f : Fr) (t : List Nat) : ((raw f ++ t).take 7).drop 3 = be 4 f.seq.toNat := by
  have e : (raw f ++ t).take 7 = hd f := by
    rw [raw, sm, List.append_assoc, List.append_assoc, List.take_append_of_le_length (by rw [hd_len]; omega), List.take_of_length_le (by rw [hd_len]; omega)]
  rw [e, hd, List.drop_append_of_le_length (by simp [be_len]), List.drop_of_length_le (by simp [be_len])]; rfl
theorem ty_of (f : Fr) (t : List Nat) : (raw f ++ t).getD 2 0 = f.ty.toNat % 256 := by
  simp only [raw, sm, hd, be, List.append_assoc, List.cons_append, List.nil_append]
  simp
theorem frOf_raw (f : Fr) (h : f.right) (t : List Nat) : frOf (raw f ++ t) = f := by
  obtain ⟨h1, h2, h3, h4, h5⟩ := h
  unfold frOf
  rw [szOf_raw f h5, take_sm, body_of, seq_of, ty_of, val_be (by omega)]
  obtain ⟨ty, seq, body⟩ := f
  simp only at *
  congr <;> omega
/-- P3.2: there. -/
theorem get_raw (f : Fr) (h : f.right) (t : List Nat) : get (raw f ++ t) = (f, f.body.length + 11, 0) := by
  have h5 := h.2.2.2.2
  have hl : (raw f ++ t).length = f.body.length + 11 + t.length := by rw [List.length_append, raw_len]
  have hs := szOf_raw f h5 t
  unfold get
  rw [hs, frOf_raw f h, take_sm, take_raw, drop_sum, val_be (by have := more_lt 0 (sm f); omega)]
  rw [if_neg (by omega), if_neg (by omega), if_neg (by omega), if_neg (by simp), if_neg (by simpa using h)]
/-- P3.2: back. -/
theorem get_ok (bs : List Nat) (h : (get bs).2.2 = 0) :
    (frOf bs).right ∧ get bs = (frOf bs, szOf bs + 11, 0) ∧ szOf bs + 11 ≤ bs.length ∧ val ((bs.take (szOf bs + 11)).drop (szOf bs + 7)) = more 0 (bs.take (szOf bs + 7)) ∧ szOf bs ≤ 1800 := by
  unfold get at *
  split at h
  · simp at h
  split at h
  · simp at h
  split at h
  · simp at h
  split at h
  · simp at h
  split at h
  · simp at h
  · rename_i h1 h2 h3 h4 h5
    have h5' : (frOf bs).right := by simpa using h5
    have h4' : val ((bs.take (szOf bs + 11)).drop (szOf bs + 7)) = more 0 (bs.take (szOf bs + 7)) := by simpa using h4
    refine ⟨h5', ?_, by omega, h4', by omega⟩
    rw [if_neg h1, if_neg h2, if_neg h3, if_neg h4, if_neg h5]
theorem frOf_len (bs : List Nat) (h : szOf bs + 11 ≤ bs.length) : (frOf bs).body.length = szOf bs := by
  show ((bs.take (szOf bs + 7)).drop 7).length = _
  rw [List.length_drop, List.length_take]; omega
theorem split7 (bs : List Nat) (h : 7 ≤ bs.length) : bs.take 7 = bs.take 2 ++ ([bs.getD 2 0] ++ (bs.take 7).drop 3) := by
  match bs, h with
  | a :: b :: c :: d :: e :: f :: g :: t, _ => rfl
theorem raw_back (bs : List Nat) (hb : ∀ c ∈ bs, c < 256) (h : (get bs).2.2 = 0) : raw (frOf bs) = bs.take (szOf bs + 11) := by
  obtain ⟨hr, _, hl, hv, h18⟩ := get_ok bs h
  have bt : ∀ (n m : Nat), ∀ c ∈ (bs.take n).drop m, c < 256 := fun n m c hc => hb c (List.mem_of_mem_take (List.mem_of_mem_drop hc))
  have bt' : ∀ (n : Nat), ∀ c ∈ bs.take n, c < 256 := fun n c hc => hb c (List.mem_of_mem_take hc)
  have hhd : hd (frOf bs) = bs.take 7 := by
    unfold hd
    rw [frOf_len bs hl, split7 bs (by omega)]
    have e1 : be 2 (szOf bs) = bs.take 2 := by
      have := be_val (bs.take 2) (bt' 2)
      rw [List.length_take, Nat.min_eq_left (by omega)] at this
      exact this
    have e3 : be 4 (frOf bs).seq.toNat = (bs.take 7).drop 3 := by
      have := be_val ((bs.take 7).drop 3) (bt 7 3)
      rw [List.length_drop, List.length_take, Nat.min_eq_left (by omega)] at this
      exact this
    have hg : bs.getD 2 0 < 256 := by
      rw [List.getD_eq_getElem?_getD, List.getElem?_eq_getElem (by omega)]
      exact hb _ (List.getElem_mem _)
    have e2 : be 1 (frOf bs).ty.toNat = [bs.getD 2 0] := by
      show [(((bs.getD 2 0 : Nat) : Int).toNat) / 256 ^ 0 % 256] = _
      rw [Int.toNat_natCast, Nat.pow_zero, Nat.div_one, Nat.mod_eq_of_lt hg]
    rw [e1, e2, e3, List.append_assoc]
  have hsm : sm (frOf bs) = bs.take (szOf bs + 7) := by
    unfold sm
    rw [hhd]
    have := List.take_append_drop 7 (bs.take (szOf bs + 7))
    rw [List.take_take, Nat.min_eq_left (by omega)] at this
    exact this
  unfold raw
  rw [hsm, ← hv]
  have e4 : be 4 (val ((bs.take (szOf bs + 11)).drop (szOf bs + 7))) = (bs.take (szOf bs + 11)).drop (szOf bs + 7) := by
    have := be_val ((bs.take (szOf bs + 11)).drop (szOf bs + 7)) (bt _ _)
    have hl4 : ((bs.take (szOf bs + 11)).drop (szOf bs + 7)).length = 4 := by
      rw [List.length_drop, List.length_take, Nat.min_eq_left (by omega)]; omega
    rw [hl4] at this
    exact this
  rw [e4]
  have := List.take_append_drop (szOf bs + 7) (bs.take (szOf bs + 11))
  rw [List.take_take, Nat.min_eq_left (by omega)] at this
  exact this
/-- P3.3: cut bytes of a frame are none. -/
theorem get_cut (f : Fr) (h : f.body.length ≤ 1800) (k : Nat) (hk : k < f.body.length + 11) : (get ((raw f).take k)).2.2 ≠ 0 := by
  intro h0
  obtain ⟨_, _, hl, _, _⟩ := get_ok _ h0
  rw [List.length_take, raw_len] at hl
  have e : szOf ((raw f).take k) = f.body.length := by
    unfold szOf
    rw [List.take_take, Nat.min_eq_left (by omega)]
    have := szOf_raw f h []
    rw [List.append_nil] at this
    exact this
  omega

/-- What bytes scan to. -/
def scanN : Nat → List Nat → Int → List Fr × Nat
  | 0, _, _ => ([], 0)
  | k + 1, bs, first => if (get bs).2.2 = 0 ∧ (get bs).1.seq = first then
      ((get bs).1 :: (scanN k (bs.drop (get bs).2.1) (first + 1)).1, (get bs).2.1 + (scanN k (bs.drop (get bs).2.1) (first + 1)).2) else ([], 0)
def scan (bs : List Nat) (first : Int) : List Fr × Nat := scanN (bs.length + 1) bs first
theorem scanN_same : ∀ (k j : Nat) (bs : List Nat) (first : Int), bs.length < k → bs.length < j → scanN k bs first = scanN j bs first := by
  intro k
  induction k with
  | zero => intro j bs first h; omega
  | succ k ih =>
    intro j bs first hk hj
    match j, hj with
    | j + 1, hj =>
      simp only [scanN]
      by_cases h : (get bs).2.2 = 0 ∧ (get bs).1.seq = first
      · obtain ⟨_, hg, hl, _, _⟩ := get_ok bs h.1
        have hn : (get bs).2.1 = szOf bs + 11 := by rw [hg]
        have e := ih j (bs.drop (get bs).2.1) (first + 1) (by rw [List.length_drop]; omega) (by rw [List.length_drop]; omega)
        rw [e]
      · rw [if_neg h, if_neg h]
theorem scan_step (bs : List Nat) (first : Int) (h0 : (get bs).2.2 = 0) (h1 : (get bs).1.seq = first) :
    scan bs first = ((get bs).1 :: (scan (bs.drop (get bs).2.1) (first + 1)).1, (get bs).2.1 + (scan (bs.drop (get bs).2.1) (first + 1)).2) := by
  obtain ⟨_, hg, hl, _, _⟩ := get_ok bs h0
  have hn : (get bs).2.1 = szOf bs + 11 := by rw [hg]
  show scanN (bs.length + 1) bs first = _
  simp only [scanN]
  rw [if_pos ⟨h0, h1⟩]
  have e : scanN bs.length (bs.drop (get bs).2.1) (first + 1) = scan (bs.drop (get bs).2.1) (first + 1) :=
    scanN_same _ _ _ _ (by rw [List.length_drop]; omega) (by omega)
  rw [e]
theorem scan_stop (bs : List Nat) (first : Int) (h : ¬ ((get bs).2.2 = 0 ∧ (get bs).1.seq = first)) : scan bs first = ([], 0) := by
  show scanN (bs.length + 1) bs first = _
  simp only [scanN]
  rw [if_neg h]
theorem scan_raw (f : Fr) (h : f.right) (t : List Nat) (first : Int) (hs : f.seq = first) : scan (raw f ++ t) first = (f :: (scan t (first + 1)).1, f.body.length + 11 + (scan t (first + 1)).2) := by
  have hg := get_raw f h t
  have e := scan_step (raw f ++ t) first (by rw [hg]) (by rw [hg]; exact hs)
  rw [hg] at e
  simp only at e
  rw [List.drop_append_of_le_length (by rw [raw_len]; omega), List.drop_of_length_le (by rw [raw_len]; omega), List.nil_append] at e
  exact e
theorem scan_nil (first : Int) : scan [] first = ([], 0) := rfl
theorem scan_le : ∀ (k : Nat) (bs : List Nat) (first : Int), bs.length < k → (scan bs first).2 ≤ bs.length := by
  intro k
  induction k with
  | zero => intro bs first h; omega
  | succ k ih =>
    intro bs first hk
    by_cases h : (get bs).2.2 = 0 ∧ (get bs).1.seq = first
    · obtain ⟨_, hg, hl, _, _⟩ := get_ok bs h.1
      have hn : (get bs).2.1 = szOf bs + 11 := by rw [hg]
      rw [scan_step bs first h.1 h.2]
      have e := ih (bs.drop (get bs).2.1) (first + 1) (by rw [List.length_drop]; omega)
      rw [List.length_drop] at e
      simp only
      omega
    · rw [scan_stop bs first h]; simp

/-- One byte turned turns the sum. -/
theorem byT_ne {r c d : Nat} (hr : r < 4294967296) (hc : c < 256) (hd : d < 256) (h : byT r c = byT r d) : c = d := by
  rw [byT_eq, byT_eq] at h
  have h1 := stpN_inj 8 (xor_lt32 hr (by omega)) (xor_lt32 hr (by omega)) h
  have := congrArg (fun t => r ^^^ t) h1
  simpa [← Nat.xor_assoc] using this
theorem more_set (xs : List Nat) (k c : Nat) (hk : k < xs.length) (hx : ∀ c ∈ xs, c < 256) (hc : c < 256) (h : more 0 (xs.set k c) = more 0 xs) : c = xs.getD k 0 := by
  have hb : ∀ x ∈ xs.set k c, x < 256 := fun x hm => by
    rcases List.mem_or_eq_of_mem_set hm with h | h
    · exact hx x h
    · omega
  unfold more at h
  have h1 := neg_inj (fold_lt (neg_lt _) hb) (fold_lt (neg_lt _) hx) h
  have e1 : xs.set k c = xs.take k ++ c :: xs.drop (k + 1) := List.set_eq_take_append_cons_drop.trans (by rw [if_pos hk])
  have e2 : xs = xs.take k ++ xs.getD k 0 :: xs.drop (k + 1) := by
    rw [List.getD_eq_getElem?_getD, List.getElem?_eq_getElem hk]
    simp
  rw [e1] at h1
  conv at h1 => rhs; rw [e2]
  rw [fold_append, fold_append] at h1
  have hl := fold_lt (r := neg 0) (bs := xs.take k) (neg_lt _) (fun x hm => hx x (List.mem_of_mem_take hm))
  have hg : xs.getD k 0 < 256 := by
    rw [List.getD_eq_getElem?_getD, List.getElem?_eq_getElem hk]
    exact hx _ (List.getElem_mem _)
  have hdr : ∀ x ∈ xs.drop (k + 1), x < 256 := fun x hm => hx x (List.mem_of_mem_drop hm)
  have h2 : fold (byT (fold (neg 0) (xs.take k)) c) (xs.drop (k + 1)) = fold (byT (fold (neg 0) (xs.take k)) (xs.getD k 0)) (xs.drop (k + 1)) := h1
  exact byT_ne hl hc hg (fold_inj (byT_lt hl hc) (byT_lt hl hg) hdr h2)
/-- P3.3: what is turned in one byte, but for its size, is not got. -/
theorem get_spoilt (f : Fr) (h : f.right) (hb : ∀ c ∈ f.body, c < 256) (k c : Nat) (h2 : 2 ≤ k) (hk : k < f.body.length + 11) (hc : c < 256) (hne : c ≠ (raw f).getD k 0) : get ((raw f).set k c) = (Fr.zero, 0, 14) := by
  have h18 := h.2.2.2.2
  have hsz : szOf ((raw f).set k c) = f.body.length := by
    unfold szOf
    rw [List.take_set_of_le (by omega)]
    have := szOf_raw f h18 []
    rw [List.append_nil] at this
    exact this
  have hlen : ((raw f).set k c).length = f.body.length + 11 := by rw [List.length_set, raw_len]
  have hsum : val (((raw f).set k c).drop (f.body.length + 7)) ≠ more 0 (((raw f).set k c).take (f.body.length + 7)) := by
    have t1 := take_sm f []
    rw [List.append_nil] at t1
    have t2 := drop_sum f
    have hml := more_lt 0 (sm f)
    by_cases hlt : k < f.body.length + 7
    · rw [List.drop_set_of_lt (by omega), t2, val_be (by omega)]
      intro he
      have e : ((raw f).set k c).take (f.body.length + 7) = (sm f).set k c := by
        rw [List.take_set, t1]
      rw [e] at he
      have hg : (sm f).getD k 0 = (raw f).getD k 0 := by
        rw [← t1, List.getD_eq_getElem?_getD, List.getD_eq_getElem?_getD, List.getElem?_take_of_lt hlt]
      have := more_set (sm f) k c (by rw [sm_len]; omega) (sm_byte f hb) hc he.symm
      rw [hg] at this
      exact hne this
    · rw [List.take_set_of_le (by omega), t1]
      intro he
      have hbd : ∀ x ∈ ((raw f).set k c).drop (f.body.length + 7), x < 256 := by
        intro x hx
        rcases List.mem_or_eq_of_mem_set (List.mem_of_mem_drop hx) with h | h
        · exact raw_byte f hb x h
        · omega
      have e1 : ((raw f).set k c).drop (f.body.length + 7) = be 4 (more 0 (sm f)) := by
        apply val_inj hbd (be_byte _ _)
        · rw [List.length_drop, hlen, be_len]; omega
        · rw [he, val_be (by omega)]
      rw [← t2] at e1
      have e2 := congrArg (fun l => l.getD (k - (f.body.length + 7)) 0) e1
      simp only [List.getD_eq_getElem?_getD, List.getElem?_drop] at e2
      rw [show f.body.length + 7 + (k - (f.body.length + 7)) = k from by omega, List.getElem?_set_self (by rw [raw_len]; omega)] at e2
      apply hne
      rw [List.getD_eq_getElem?_getD]
      exact e2
  unfold get
  rw [hsz, if_neg (by omega), if_neg (by omega), if_neg (by omega)]
  have e3 : ((raw f).set k c).take (f.body.length + 11) = (raw f).set k c := List.take_of_length_le (by omega)
  rw [e3, if_pos hsum]
/-- P3.1: unlike frames have unlike bytes, neither the beginning of the other one's. -/
theorem raw_prefix (a b : Fr) (ha : a.right) (hb : b.right) (n : Nat) (hn : n = min (a.body.length + 11) (b.body.length + 11)) : (raw a).take n = (raw b).take n ↔ a = b := by
  constructor
  · intro h
    have e2 := congrArg (List.take 2) h
    rw [List.take_take, List.take_take, Nat.min_eq_left (by omega)] at e2
    have s1 := szOf_raw a ha.2.2.2.2 []
    have s2 := szOf_raw b hb.2.2.2.2 []
    rw [List.append_nil] at s1 s2
    unfold szOf at s1 s2
    rw [e2, s2] at s1
    rw [List.take_of_length_le (by rw [raw_len]; omega), List.take_of_length_le (by rw [raw_len]; omega)] at h
    have g1 := get_raw a ha []
    have g2 := get_raw b hb []
    rw [List.append_nil] at g1 g2
    rw [h, g2] at g1
    exact (congrArg (·.1) g1).symm
  · rintro rfl; rfl
end Go.Proofs.YtiiellclnmakpaaDoor.Frm

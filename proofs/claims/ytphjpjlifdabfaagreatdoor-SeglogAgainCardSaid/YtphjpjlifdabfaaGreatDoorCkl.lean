/- Rows of frames, one behind the other: plain mathematics of Scan. A head and frames in a row, read: plain mathematics. Mathematics of lists' bytes: there and back; one byte more; one byte turned. Mathematics of Swap on a disk: what is there behind it, and behind a Crash. Mathematics of Swap on a disk: with room for it, it is done. The log on a disk, plain mathematics: segments in a chain, what they hold, what a write to the last one, a new one behind it and the loss of the first ones make of it. The log on a disk, plain mathematics: what a disk's calls leave of the other files; Append, Sync and Retain keep a chain a chain, whatever they tell. The log on a disk, plain mathematics: Retain loses whole segments, the oldest first; fuses and Syncs that fail change nothing. The log on a disk, plain mathematics: what a crash leaves of a file, what is read of a segment that is cut, what Open finds. The log on a disk, plain mathematics: Open behind a crash gives the chain again, but for the last one's frames that are not whole. The log on a disk, plain mathematics: what lasts; a crash and Open leave a prefix, with all that lasts. The log on a disk, plain mathematics: what lasts is kept by Sync, by a write to the last segment, and by a segment more. -/
import Derived.Test.YtphjpjlifdabfaaGreatDoorCkc
import Derived.Test.YtphjpjlifdabfaaGreatDoorCkd
import Derived.Test.YtphjpjlifdabfaaGreatDoorCke
namespace Go.Proofs.YtphjpjlifdabfaaGreatDoor
section
namespace Frm
set_option linter.unusedSimpArgs false
set_option linter.unusedVariables false
open Crc

def rows (fs : List Fr) : List Nat := fs.flatMap raw
def ends (fs : List Fr) (k : Nat) : Nat := (rows (fs.take k)).length
theorem rows_cons (f : Fr) (fs : List Fr) : rows (f :: fs) = raw f ++ rows fs := by simp [rows]
theorem rows_snoc (f : Fr) (fs : List Fr) : rows (fs ++ [f]) = rows fs ++ raw f := by simp [rows]
theorem rows_byte (fs : List Fr) (h : ∀ f ∈ fs, ∀ c ∈ f.body, c < 256) : ∀ c ∈ rows fs, c < 256 := by
  intro c hc
  obtain ⟨f, hf, hc⟩ := List.mem_flatMap.1 hc
  exact raw_byte f (h f hf) c hc
theorem ends_cons (f : Fr) (fs : List Fr) (k : Nat) : ends (f :: fs) (k + 1) = f.body.length + 11 + ends fs k := by
  simp [ends, rows_cons, raw_len]
theorem ends_succ (fs : List Fr) (k : Nat) (f : Fr) (h : fs[k]? = some f) : ends fs (k + 1) = ends fs k + (f.body.length + 11) := by
  unfold ends
  rw [List.take_add_one, h]
  simp only [Option.toList_some]
  rw [rows_snoc, List.length_append, raw_len]
/-- P3.1: Scan tells just those from the first on whose numbers rise by one. -/
theorem scan_rows : ∀ (fs : List Fr) (first : Int) (n : Nat), (∀ f ∈ fs, f.right) → n ≤ fs.length → (∀ (j : Nat) (f : Fr), j < n → fs[j]? = some f → f.seq = first + (j : Int)) → (∀ f, fs[n]? = some f → f.seq ≠ first + (n : Int)) →
    scan (rows fs) first = (fs.take n, ends fs n) := by
  intro fs
  induction fs with
  | nil =>
    intro first n _ hn _ _
    have : n = 0 := by simpa using hn
    subst this
    rfl
  | cons f fs ih =>
    intro first n hr hn hj hs
    rw [rows_cons]
    cases n with
    | zero =>
      have h := hs f rfl
      have hg := get_raw f (hr f (by simp)) (rows fs)
      rw [scan_stop _ _ (by rw [hg]; simp only; intro h2; exact h (by have := h2.2; omega))]
      simp [ends, rows]
    | succ n =>
      have h0 := hj 0 f (by omega) rfl
      rw [scan_raw f (hr f (by simp)) (rows fs) first (by simpa using h0)]
      rw [ih (first + 1) n (fun g hg => hr g (by simp [hg])) (by simpa using hn) (fun j g hjn hg => by have := hj (j + 1) g (by omega) (by simpa using hg); omega) (fun g hg => by have := hs g (by simpa using hg); omega)]
      rw [ends_cons]
      rfl
/-- P3.3: cut bytes scan to the first ones of the same frames. -/
theorem scan_cut : ∀ (fs : List Fr) (first : Int) (k n : Nat), (∀ f ∈ fs, f.right) → (∀ (j : Nat) (f : Fr), fs[j]? = some f → f.seq = first + (j : Int)) → n ≤ fs.length → ends fs n ≤ k → (∀ f, fs[n]? = some f → k < ends fs n + (f.body.length + 11)) →
    scan ((rows fs).take k) first = (fs.take n, ends fs n) := by
  intro fs
  induction fs with
  | nil =>
    intro first k n _ _ hn _ _
    have : n = 0 := by simpa using hn
    subst this
    simp [rows, ends, scan_nil]
  | cons f fs ih =>
    intro first k n hr hj hn hk hs
    rw [rows_cons]
    cases n with
    | zero =>
      have h := hs f rfl
      have hlt : k < f.body.length + 11 := by simpa [ends, rows] using h
      rw [List.take_append_of_le_length (by rw [raw_len]; omega)]
      rw [scan_stop _ _ (fun h2 => get_cut f (hr f (by simp)).2.2.2.2 k hlt h2.1)]
      simp [ends, rows]
    | succ n =>
      rw [ends_cons] at hk
      have h0 := hj 0 f rfl
      have e : (raw f ++ rows fs).take k = raw f ++ (rows fs).take (k - (f.body.length + 11)) := by
        rw [List.take_append, raw_len, List.take_of_length_le (by rw [raw_len]; omega)]
      rw [e, scan_raw f (hr f (by simp)) _ first (by simpa using h0)]
      rw [ih (first + 1) (k - (f.body.length + 11)) n (fun g hg => hr g (by simp [hg])) (fun j g hg => by have := hj (j + 1) g (by simpa using hg); omega) (by simpa using hn) (by omega) (fun g hg => by
        have := hs g (by simpa using hg)
        rw [ends_cons] at this
        omega)]
      rw [ends_cons]
      rfl
theorem rows_len_ends (fs : List Fr) : (rows fs).length = ends fs fs.length := by unfold ends; rw [List.take_length]
theorem scan_all (fs : List Fr) (first : Int) (hr : ∀ f ∈ fs, f.right) (hj : ∀ (j : Nat) (f : Fr), fs[j]? = some f → f.seq = first + (j : Int)) : scan (rows fs) first = (fs, (rows fs).length) := by
  have := scan_rows fs first fs.length hr (Nat.le_refl _) (fun j f _ h => hj j f h) (fun f h => by rw [List.getElem?_eq_none (Nat.le_refl _)] at h; cases h)
  rw [this, List.take_length, rows_len_ends]
end Frm
end
section
set_option linter.unusedSimpArgs false
set_option linter.unusedVariables false
open Crc Frm

theorem get_short {m : List Nat} (h : m.length ≤ 10) : (get m).2.2 ≠ 0 := fun h0 => by
  obtain ⟨_, _, hl, _, _⟩ := get_ok m h0
  omega
theorem scan_tail : ∀ (fs : List Fr) (first : Int) (m : List Nat), (∀ f ∈ fs, f.right) → (∀ (j : Nat) (f : Fr), fs[j]? = some f → f.seq = first + (j : Int)) → m.length ≤ 10 → scan (rows fs ++ m) first = (fs, (rows fs).length) := by
  intro fs
  induction fs with
  | nil =>
    intro first m _ _ hm
    rw [show rows [] ++ m = m from rfl, scan_stop _ _ (fun h => get_short hm h.1)]
    rfl
  | cons f fs ih =>
    intro first m hr hj hm
    rw [rows_cons, List.append_assoc, scan_raw f (hr f (by simp)) _ first (by simpa using hj 0 f rfl)]
    rw [ih (first + 1) m (fun g hg => hr g (by simp [hg])) (fun j g hg => by have := hj (j + 1) g (by simpa using hg); omega) hm]
    rw [List.length_append, raw_len]
theorem rh_head (n : Nat) (hn : n ≤ 1073741824) (t : List Nat) : rh (head n ++ t) = (n, 0) := by
  have hml := more_lt 0 (hd0 n)
  have ht4 : (head n ++ t).take 4 = magic := rfl
  have ht8 : (head n ++ t).take 8 = hd0 n := by
    rw [List.take_append_of_le_length (by rw [head_len]; decide)]
    unfold head
    rw [List.take_append_of_le_length (by rw [hd0_len]; decide), List.take_of_length_le (by rw [hd0_len]; decide)]
  have hd8 : ((head n ++ t).drop 8).take 4 = be 4 (more 0 (hd0 n)) := by
    unfold head
    rw [List.append_assoc, List.drop_append_of_le_length (by rw [hd0_len]; decide), List.drop_of_length_le (by rw [hd0_len]; decide), List.nil_append, List.take_append_of_le_length (by rw [be_len]; decide), List.take_of_length_le (by rw [be_len]; decide)]
  have hd4 : ((head n ++ t).drop 4).take 4 = be 4 n := by
    unfold head hd0
    rw [List.append_assoc, List.append_assoc, List.drop_append_of_le_length (by decide), show magic.drop 4 = [] from rfl, List.nil_append, List.take_append_of_le_length (by rw [be_len]; decide), List.take_of_length_le (by rw [be_len]; decide)]
  unfold rh
  rw [if_neg (by rw [List.length_append, head_len]; omega), if_neg (by rw [ht4]; simp), if_neg (by rw [hd8, ht8, val_be (by omega)]; simp), hd4, val_be (by omega), if_neg (by omega)]
theorem rd_head (n : Nat) (hn : n ≤ 1073741824) (fs : List Fr) (m : List Nat) (hr : ∀ f ∈ fs, f.right) (hj : ∀ (j : Nat) (f : Fr), fs[j]? = some f → f.seq = (n : Int) + (j : Int)) (hm : m.length ≤ 10) :
    rd (head n ++ rows fs ++ m) = (n, fs, 12 + (rows fs).length, 0) := by
  have h := rh_head n hn (rows fs ++ m)
  unfold rd
  rw [List.append_assoc, h, if_neg (by simp)]
  have hd : (head n ++ (rows fs ++ m)).drop 12 = rows fs ++ m := by
    rw [List.drop_append_of_le_length (by rw [head_len]; decide), List.drop_of_length_le (by rw [head_len]; decide), List.nil_append]
  rw [hd, scan_tail fs n m hr hj hm]
end
section
set_option linter.unusedSimpArgs false
set_option linter.unusedVariables false
open Crc Frm

theorem mNums_at : ∀ (l : List Int) (j : Nat) (hj : j < l.length) (s : List Nat), ((mNums l ++ s).drop (4 * j)).take 4 = be 4 (l[j]).toNat
  | x :: l, 0, _, s => by
    show ((be 4 x.toNat ++ mNums l ++ s).drop 0).take 4 = _
    rw [List.drop_zero, List.append_assoc, List.take_append_of_le_length (by rw [be_len]; omega), List.take_of_length_le (by rw [be_len]; omega)]
    rfl
  | x :: l, j + 1, hj, s => by
    show ((be 4 x.toNat ++ mNums l ++ s).drop (4 * (j + 1))).take 4 = _
    rw [List.append_assoc, show 4 * (j + 1) = 4 + 4 * j by omega, ← List.drop_drop, List.drop_append_of_le_length (by rw [be_len]; omega), List.drop_of_length_le (l := be 4 x.toNat) (by rw [be_len]; omega), List.nil_append]
    exact mNums_at l j (by simpa using hj) s
theorem mSum_len (l : List Int) : (mSum l).length = 1 + 4 * l.length := by unfold mSum; rw [List.length_cons, mNums_len]; omega
theorem mRaw_len (l : List Int) : (mRaw l).length = 5 + 4 * l.length := by unfold mRaw; rw [List.length_append, mSum_len, be_len]; omega
theorem mRaw_0 (l : List Int) : (mRaw l).getD 0 0 = l.length := rfl
theorem mSum_byte {l : List Int} (h : mOk l = true) : ∀ c ∈ mSum l, c < 256 := by
  intro c hc
  rcases List.mem_cons.1 hc with rfl | h1
  · have := (mOk_all h).2.1; omega
  · exact mNums_byte l c h1
theorem mRaw_take (l : List Int) : (mRaw l).take (1 + 4 * l.length) = mSum l := by
  unfold mRaw
  rw [List.take_append_of_le_length (by rw [mSum_len]; omega), List.take_of_length_le (by rw [mSum_len]; omega)]
theorem mRaw_drop (l : List Int) : (mRaw l).drop (1 + 4 * l.length) = be 4 (more 0 (mSum l)) := by
  unfold mRaw
  rw [List.drop_append_of_le_length (by rw [mSum_len]; omega), List.drop_of_length_le (by rw [mSum_len]; omega)]; rfl
theorem mList_raw {l : List Int} (h : mOk l = true) : mList (mRaw l) = l := by
  unfold mList
  rw [mRaw_0]
  apply List.ext_getElem
  · simp
  · intro j h1 h2
    rw [List.getElem_map, List.getElem_range]
    unfold mNum
    have hx := (mOk_all h).2.2 l[j] (List.getElem_mem _)
    have h3 : (mRaw l).drop (1 + 4 * j) = (mNums l ++ be 4 (more 0 (mSum l))).drop (4 * j) := by
      rw [show 1 + 4 * j = 4 * j + 1 by omega]; rfl
    rw [h3, mNums_at l j h2, val_be (by omega)]
    omega
theorem more4 (l : List Int) : more 0 (mSum l) < 256 ^ 4 := by have := more_lt 0 (mSum l); omega
/-- P5.2: there. -/
theorem mGet_raw {l : List Int} (h : mOk l = true) : mGet (mRaw l) = (l, 0) := by
  unfold mGet
  rw [mRaw_len, mRaw_0, if_neg (by omega), show 5 + 4 * l.length - 4 = 1 + 4 * l.length by omega, mRaw_drop, mRaw_take, val_be (more4 l), if_neg (by simp), mList_raw h, if_pos h]
theorem mGet_more {l : List Int} (c : Nat) : mGet (mRaw l ++ [c]) = ([], 12) := by
  unfold mGet
  rw [if_pos]
  right
  rw [List.length_append, mRaw_len]
  show 5 + 4 * l.length + 1 ≠ 5 + 4 * l.length
  omega
/-- One byte turned. -/
theorem mGet_set {l : List Int} (h : mOk l = true) (k c : Nat) (hk : k < 5 + 4 * l.length) (hc : c < 256) (hne : c ≠ (mRaw l).getD k 0) : (mGet ((mRaw l).set k c)).2 ≠ 0 := by
  have hlen : ((mRaw l).set k c).length = 5 + 4 * l.length := by rw [List.length_set, mRaw_len]
  unfold mGet
  rw [hlen]
  cases k with
  | zero =>
    have e0 : ((mRaw l).set 0 c).getD 0 0 = c := rfl
    rw [e0, if_pos (.inr (by have : c ≠ l.length := hne; omega))]
    simp
  | succ k =>
    have e0 : ((mRaw l).set (k + 1) c).getD 0 0 = l.length := rfl
    rw [e0, if_neg (by omega), show 5 + 4 * l.length - 4 = 1 + 4 * l.length by omega]
    by_cases hk4 : k + 1 < 1 + 4 * l.length
    · have hd : ((mRaw l).set (k + 1) c).drop (1 + 4 * l.length) = be 4 (more 0 (mSum l)) := by rw [List.drop_set_of_lt hk4, mRaw_drop]
      have ht : ((mRaw l).set (k + 1) c).take (1 + 4 * l.length) = (mSum l).set (k + 1) c := by rw [List.take_set, mRaw_take]
      rw [hd, ht, val_be (more4 l), if_pos]
      · simp
      · intro he
        apply hne
        rw [more_set (mSum l) (k + 1) c (by rw [mSum_len]; omega) (mSum_byte h) hc he.symm]
        unfold mRaw
        rw [List.getD_eq_getElem?_getD, List.getD_eq_getElem?_getD, List.getElem?_append_left (by rw [mSum_len]; omega)]
    · obtain ⟨i, hi⟩ : ∃ i, k + 1 = 1 + 4 * l.length + i := ⟨k + 1 - (1 + 4 * l.length), by omega⟩
      have ht : ((mRaw l).set (k + 1) c).take (1 + 4 * l.length) = mSum l := by rw [List.take_set_of_le (by omega), mRaw_take]
      have hd : ((mRaw l).set (k + 1) c).drop (1 + 4 * l.length) = (be 4 (more 0 (mSum l))).set i c := by
        rw [List.drop_set, if_neg (by omega), mRaw_drop, hi, Nat.add_sub_cancel_left]
      rw [hd, ht, if_pos]
      · simp
      · intro he
        have h2 : (be 4 (more 0 (mSum l))).set i c = be 4 (more 0 (mSum l)) := by
          apply val_inj
          · intro x hx
            rcases List.mem_or_eq_of_mem_set hx with h3 | h3
            · exact be_byte _ _ x h3
            · omega
          · exact be_byte _ _
          · rw [List.length_set]
          · rw [he, val_be (more4 l)]
        apply hne
        have h3 := congrArg (fun z => z.getD i 0) h2
        have hi4 : i < 4 := by omega
        simp only [List.getD_eq_getElem?_getD] at h3
        rw [List.getElem?_set_self (by rw [be_len]; omega)] at h3
        have h4 : (mRaw l).getD (k + 1) 0 = (be 4 (more 0 (mSum l))).getD i 0 := by
          rw [← mRaw_drop, hi, List.getD_eq_getElem?_getD, List.getD_eq_getElem?_getD, List.getElem?_drop]
        rw [h4, List.getD_eq_getElem?_getD, ← h3]
        rfl
theorem mGet_err (bs : List Nat) (h : (mGet bs).2 ≠ 0) : (mGet bs).1 = [] := by
  unfold mGet at *
  split
  · rfl
  split
  · rfl
  split
  · simp_all
  · rfl
theorem mList_len0 (b0 : Nat) (ys : List Nat) : (mList (b0 :: ys)).length = b0 := by simp [mList]
theorem chunks (ys : List Nat) : ∀ k, (List.range k).flatMap (fun j => (ys.drop (4 * j)).take 4) = ys.take (4 * k)
  | 0 => by simp
  | k + 1 => by
    rw [List.range_succ, List.flatMap_append, chunks ys k, show 4 * (k + 1) = 4 * k + 4 by omega, List.take_add]
    simp
theorem flatMap_same {l : List Nat} {f g : Nat → List Nat} (h : ∀ j ∈ l, f j = g j) : l.flatMap f = l.flatMap g := by
  induction l with
  | nil => rfl
  | cons x l ih => rw [List.flatMap_cons, List.flatMap_cons, h x (by simp), ih (fun j hj => h j (by simp [hj]))]
/-- P5.2: back. -/
theorem mGet_back (bs : List Nat) (hb : ∀ c ∈ bs, c < 256) (h : (mGet bs).2 = 0) : mOk (mGet bs).1 = true ∧ mPut (mGet bs).1 = bs := by
  have key : bs.length = 5 + 4 * bs.getD 0 0 ∧ val (bs.drop (bs.length - 4)) = more 0 (bs.take (bs.length - 4)) ∧ mOk (mList bs) = true ∧ mGet bs = (mList bs, 0) := by
    unfold mGet at *
    split at h
    · simp at h
    · rename_i h1
      split at h
      · simp at h
      · rename_i h2
        split at h
        · rename_i h3
          refine ⟨by omega, by simpa using h2, h3, ?_⟩
          rw [if_neg h1, if_neg h2, if_pos h3]
        · simp at h
  obtain ⟨h1, h2, h3, h4⟩ := key
  rw [h4]
  refine ⟨h3, ?_⟩
  unfold mPut
  rw [if_pos h3]
  have hbl := hb
  obtain ⟨b0, hb0⟩ : ∃ b0, b0 = bs.getD 0 0 := ⟨_, rfl⟩
  rw [← hb0] at h1
  match bs, h1 with
  | y :: ys, h1 =>
    have hy : b0 = y := hb0
    subst hy
    have hyl : ys.length = 4 + 4 * b0 := by simp only [List.length_cons] at h1; omega
    have hnums : mNums (mList (b0 :: ys)) = ys.take (4 * b0) := by
      rw [← chunks ys b0]
      unfold mNums mList
      rw [List.flatMap_map]
      show (List.range b0).flatMap _ = _
      apply flatMap_same
      intro j hj
      have hj' := List.mem_range.1 hj
      unfold mNum
      rw [show 1 + 4 * j = 4 * j + 1 by omega]
      show be 4 (((val ((ys.drop (4 * j)).take 4) : Nat) : Int)).toNat = _
      rw [Int.toNat_natCast]
      have h5 := be_val ((ys.drop (4 * j)).take 4) (fun c hc => hb c (List.mem_cons_of_mem _ (List.mem_of_mem_drop (List.mem_of_mem_take hc))))
      rw [List.length_take, List.length_drop, Nat.min_eq_left (by omega)] at h5
      exact h5
    have hsum : mSum (mList (b0 :: ys)) = (b0 :: ys).take (1 + 4 * b0) := by
      unfold mSum
      rw [hnums, mList_len0, show 1 + 4 * b0 = 4 * b0 + 1 by omega]
      rfl
    have hl4 : (b0 :: ys).length - 4 = 1 + 4 * b0 := by simp only [List.length_cons]; omega
    rw [hl4] at h2
    unfold mRaw
    rw [hsum, ← h2]
    have h6 := be_val ((b0 :: ys).drop (1 + 4 * b0)) (fun c hc => hb c (List.mem_of_mem_drop hc))
    rw [List.length_drop, show (b0 :: ys).length - (1 + 4 * b0) = 4 by simp only [List.length_cons]; omega] at h6
    rw [h6, List.take_append_drop]
end
section
set_option linter.unusedSimpArgs false
set_option linter.unusedVariables false
open Go.RowKit Go.Sort
open Go.Maps
open Crc Frm

theorem mne : mfL ≠ nxL := by decide
/-- The list's file has a list's bytes, and all of them last. -/
def Has (D : FS) (l : List Int) : Prop := fat D mfL = some ⟨mPut l, (mPut l).length⟩
theorem fat_delete_other (t : St) {s s' : List UInt8} (h : s' ≠ s) : fat (t.delete s).2.D s' = fat t.D s' := by
  unfold St.delete
  split
  · rfl
  split
  · rfl
  · exact fat_del_other h
theorem fat_sync_other (t : St) {s s' : List UInt8} (h : s' ≠ s) : fat (t.sync s).2.D s' = fat t.D s' := by
  unfold St.sync
  split
  · rfl
  split
  · rfl
  split
  · rfl
  · exact fat_put_other h _
theorem fat_write_other (t : St) {s s' : List UInt8} (b : List Nat) (h : s' ≠ s) : fat (t.write s b).2.D s' = fat t.D s' := by
  unfold St.write
  split
  · rfl
  split
  · rfl
  split
  · rfl
  · exact fat_put_other h _
theorem isMap_delete {t : St} (h : IsMap t.D) (s : List UInt8) : IsMap (t.delete s).2.D := by
  unfold St.delete
  split
  · exact h
  split
  · exact h
  · exact h.del _
theorem isMap_sync {t : St} (h : IsMap t.D) (s : List UInt8) : IsMap (t.sync s).2.D := by
  unfold St.sync
  split
  · exact h
  split
  · exact h
  split
  · exact h
  · exact h.put _ _
theorem isMap_write {t : St} (h : IsMap t.D) (s : List UInt8) (b : List Nat) : IsMap (t.write s b).2.D := by
  unfold St.write
  split
  · exact h
  split
  · exact h
  split
  · exact h
  · exact h.put _ _
theorem isMap_delNext {t : St} (h : IsMap t.D) : IsMap (delNext t).2.D := by
  unfold delNext
  split
  · exact isMap_delete h _
  · exact h
theorem isMap_st {t : St} (h : IsMap t.D) (l : List Int) : ∀ k, k ≤ 3 → IsMap (mSt t l k).D
  | 0, _ => h
  | 1, _ => isMap_delNext h
  | 2, _ => isMap_write (isMap_delNext h) _ _
  | 3, _ => isMap_sync (isMap_write (isMap_delNext h) _ _) _
theorem fat_delNext (t : St) : fat (delNext t).2.D mfL = fat t.D mfL := by
  unfold delNext
  split
  · exact fat_delete_other t mne
  · rfl
theorem fat_st (t : St) (l : List Int) : ∀ k, k ≤ 3 → fat (mSt t l k).D mfL = fat t.D mfL
  | 0, _ => rfl
  | 1, _ => fat_delNext t
  | 2, _ => (fat_write_other _ _ mne).trans (fat_delNext t)
  | 3, _ => (fat_sync_other _ mne).trans ((fat_write_other _ _ mne).trans (fat_delNext t))
theorem st_1 (t : St) (l : List Int) (h : mAns t l 0 = 0) : fat (mSt t l 1).D nxL = none := by
  show fat (delNext t).2.D nxL = none
  have h : (delNext t).1 = 0 := h
  unfold delNext at *
  split at h
  · rename_i hs
    rw [if_pos hs]
    unfold St.delete at *
    split at h
    · simp at h
    · rename_i hf
      rw [if_neg hf]
      split at h
      · simp at h
      · exact fat_del_same _
  · rename_i hs
    rw [if_neg hs]
    cases hf : fat t.D nxL with
    | none => rfl
    | some f => rw [hf] at hs; simp at hs
theorem st_2 {t : St} (hm : IsMap t.D) (l : List Int) (h1 : fat (mSt t l 1).D nxL = none) (h : mAns t l 1 = 0) : fat (mSt t l 2).D nxL = some ⟨mPut l, 0⟩ := by
  have hm1 := isMap_st hm l 1 (by omega)
  show fat ((mSt t l 1).write nxL (mPut l)).2.D nxL = _
  have h : ((mSt t l 1).write nxL (mPut l)).1 = 0 := h
  generalize mSt t l 1 = s at *
  unfold St.write at *
  split at h
  · simp at h
  · rename_i a1
    rw [if_neg a1]
    split at h
    · simp at h
    · rename_i a2
      rw [if_neg a2]
      split at h
      · simp at h
      · rename_i a3
        rw [if_neg a3]
        show fat (s.D.put _ _) nxL = _
        rw [fat_put_same hm1, h1]
        rfl
theorem st_3 {t : St} (hm : IsMap t.D) (l : List Int) (P : List Nat) (h1 : fat (mSt t l 2).D nxL = some ⟨P, 0⟩) (h : mAns t l 2 = 0) : fat (mSt t l 3).D nxL = some ⟨P, P.length⟩ := by
  have hm1 := isMap_st hm l 2 (by omega)
  show fat ((mSt t l 2).sync nxL).2.D nxL = _
  have h : ((mSt t l 2).sync nxL).1 = 0 := h
  generalize mSt t l 2 = s at *
  unfold St.sync at *
  rw [h1] at h ⊢
  split at h
  · simp at h
  · rename_i a1
    rw [if_neg a1]
    simp only [] at h ⊢
    split at h
    · simp at h
    · rename_i a2
      rw [if_neg a2]
      exact fat_put_same hm1 _ _
theorem st_4 {t : St} (hm : IsMap t.D) (l : List Int) (f : Fl) (h1 : fat (mSt t l 3).D nxL = some f) (h : mAns t l 3 = 0) : fat (mSt t l 4).D mfL = some f := by
  have hm1 := isMap_st hm l 3 (by omega)
  show fat ((mSt t l 3).rename nxL mfL).2.D mfL = _
  have h : ((mSt t l 3).rename nxL mfL).1 = 0 := h
  generalize mSt t l 3 = s at *
  unfold St.rename at *
  rw [h1] at h ⊢
  split at h
  · simp at h
  · rename_i a1
    rw [if_neg a1]
    split at h
    · simp at h
    · rename_i a2
      rw [if_neg a2]
      exact fat_put_same (hm1.del _) _ _
theorem fat_clean (x : Int) (t : St) : fat (mClean x t).D mfL = fat t.D mfL := by
  unfold mClean
  split
  · exact fat_delete_other t mne
  · rfl
theorem turn_cases (t : St) (l : List Int) : (∃ k, k < 4 ∧ (∀ j, j < k → mAns t l j = 0) ∧ mAns t l k ≠ 0 ∧ mTurn t l = (mAns t l k, mSt t l (k + 1))) ∨ ((∀ j, j < 4 → mAns t l j = 0) ∧ mTurn t l = (0, mSt t l 4)) := by
  by_cases h0 : mAns t l 0 = 0
  · by_cases h1 : mAns t l 1 = 0
    · by_cases h2 : mAns t l 2 = 0
      · by_cases h3 : mAns t l 3 = 0
        · have hall : ∀ j, j < 4 → mAns t l j = 0 := fun j hj => by match j, hj with | 0, _ => exact h0 | 1, _ => exact h1 | 2, _ => exact h2 | 3, _ => exact h3
          exact .inr ⟨hall, turn_end t l hall⟩
        · have hall : ∀ j, j < 3 → mAns t l j = 0 := fun j hj => by match j, hj with | 0, _ => exact h0 | 1, _ => exact h1 | 2, _ => exact h2
          exact .inl ⟨3, by omega, hall, h3, turn_stop t l 3 (by omega) hall h3⟩
      · have hall : ∀ j, j < 2 → mAns t l j = 0 := fun j hj => by match j, hj with | 0, _ => exact h0 | 1, _ => exact h1
        exact .inl ⟨2, by omega, hall, h2, turn_stop t l 2 (by omega) hall h2⟩
    · have hall : ∀ j, j < 1 → mAns t l j = 0 := fun j hj => by match j, hj with | 0, _ => exact h0
      exact .inl ⟨1, by omega, hall, h1, turn_stop t l 1 (by omega) hall h1⟩
  · exact .inl ⟨0, by omega, fun j hj => by omega, h0, turn_stop t l 0 (by omega) (fun j hj => by omega) h0⟩
/-- P5.3: a Swap that is not done leaves the list's file. -/
theorem swap_keeps (t : St) (l : List Int) (h : (mSwap t l).1 ≠ 0) : fat (mSwap t l).2.D mfL = fat t.D mfL := by
  unfold mSwap at *
  split at h
  · rename_i hok
    rw [if_pos hok]
    show fat (mClean _ _).D mfL = _
    rw [fat_clean]
    rcases turn_cases t l with ⟨k, hk, _, h1, h2⟩ | ⟨_, h2⟩
    · rw [h2]
      by_cases hk3 : k < 3
      · exact fat_st t l (k + 1) (by omega)
      · have : k = 3 := by omega
        subst this
        show fat ((mSt t l 3).rename nxL mfL).2.D mfL = _
        rw [rename_err (mSt t l 3) nxL mfL h1]
        exact fat_st t l 3 (by omega)
    · rw [h2] at h
      exact absurd rfl h
  · rename_i hok
    rw [if_neg hok]
/-- P5.3: one that is done leaves the other list. -/
theorem swap_done {t : St} (hm : IsMap t.D) (l : List Int) (h : (mSwap t l).1 = 0) : mOk l = true ∧ Has (mSwap t l).2.D l := by
  unfold mSwap at *
  split at h
  · rename_i hok
    refine ⟨hok, ?_⟩
    rw [if_pos hok]
    show fat (mClean _ _).D mfL = _
    rw [fat_clean]
    rcases turn_cases t l with ⟨k, hk, _, h1, h2⟩ | ⟨h1, h2⟩
    · rw [h2] at h
      exact absurd h h1
    · rw [h2]
      exact st_4 hm l _ (st_3 hm l _ (st_2 hm l (st_1 t l (h1 0 (by omega))) (h1 1 (by omega))) (h1 2 (by omega))) (h1 3 (by omega))
  · simp at h
theorem has_crash {t : St} (hG : Good t.D t.room) (ks : List Int) {l : List Int} (h : Has t.D l) : Has (t.crash ks).D l := by
  have hmem := (names_mem hG mfL).2 (by unfold Has at h; rw [h]; rfl)
  obtain ⟨j, hj⟩ := List.getElem?_of_mem hmem
  have h2 := fat_crD ks (size t.D) hG hj h
  show fat (crD ks (size t.D) t.D) mfL = _
  rw [h2]
  split
  · have := crM_le ks j (f := ⟨mPut l, (mPut l).length⟩) (Nat.le_refl _)
    have e : crM ks j ⟨mPut l, (mPut l).length⟩ = (mPut l).length := by simp only [] at this; omega
    unfold crF
    rw [e]
    simp
  · rfl
theorem load_has {t : St} {l : List Int} (hok : mOk l = true) (h : Has t.D l) : mLoad t = (l, 0) := by
  unfold mLoad
  rw [h]
  show mGet (mPut l) = _
  have : mPut l = mRaw l := by unfold mPut; rw [if_pos hok]
  rw [this, mGet_raw hok]
end
section
set_option linter.unusedSimpArgs false
set_option linter.unusedVariables false
open Go.RowKit Go.Sort
open Go.Maps
open Crc Frm

theorem length_insert (x : Lit × DataW Fl) : ∀ l : List (Lit × DataW Fl), (DataW.insert x l).length = l.length + 1
  | [] => rfl
  | y :: r => by
    unfold DataW.insert
    split
    · rfl
    · simp [length_insert x r]
theorem size_put_le {D : FS} (h : IsMap D) (k : Lit) (d : DataW Fl) : size (D.put k d) ≤ size D + 1 := by
  obtain ⟨es, rfl⟩ := h
  show (DataW.insert (k, d) (es.filter fun p => !p.1.sameKey k)).length ≤ es.length + 1
  rw [length_insert]
  have := List.length_filter_le (fun p : Lit × DataW Fl => !p.1.sameKey k) es
  omega
theorem size_del_le {D : FS} (h : IsMap D) (k : Lit) : size (D.del k) ≤ size D := by
  obtain ⟨es, rfl⟩ := h
  exact List.length_filter_le (fun p : Lit × DataW Fl => !p.1.sameKey k) es
theorem size_delete {t : St} (h : IsMap t.D) (s : List UInt8) : size (t.delete s).2.D ≤ size t.D := by
  unfold St.delete
  split
  · exact Nat.le_refl _
  split
  · exact Nat.le_refl _
  · exact size_del_le h _
theorem size_sync {t : St} (h : IsMap t.D) (s : List UInt8) : size (t.sync s).2.D ≤ size t.D + 1 := by
  unfold St.sync
  split
  · exact Nat.le_succ _
  split
  · exact Nat.le_succ _
  split
  · exact Nat.le_succ _
  · exact size_put_le h _ _
theorem size_write {t : St} (h : IsMap t.D) (s : List UInt8) (b : List Nat) : size (t.write s b).2.D ≤ size t.D + 1 := by
  unfold St.write
  split
  · exact Nat.le_succ _
  split
  · exact Nat.le_succ _
  split
  · exact Nat.le_succ _
  · exact size_put_le h _ _
theorem size_rename {t : St} (h : IsMap t.D) (s tn : List UInt8) : size (t.rename s tn).2.D ≤ size t.D + 1 := by
  unfold St.rename
  split
  · exact Nat.le_succ _
  split
  · exact Nat.le_succ _
  split
  · exact Nat.le_succ _
  · have h1 := size_put_le (h.del (.string s)) (.string tn) (.held (by assumption))
    have h2 := size_del_le h (.string s)
    exact Nat.le_trans (size_put_le (h.del (.string s)) _ _) (by omega)
theorem size_delNext {t : St} (h : IsMap t.D) : size (delNext t).2.D ≤ size t.D := by
  unfold delNext
  split
  · exact size_delete h _
  · exact Nat.le_refl _
theorem isMap_st4 {t : St} (h : IsMap t.D) (l : List Int) : ∀ k, k ≤ 4 → IsMap (mSt t l k).D
  | 0, _ => h
  | 1, _ => isMap_st h l 1 (by omega)
  | 2, _ => isMap_st h l 2 (by omega)
  | 3, _ => isMap_st h l 3 (by omega)
  | 4, _ => by
    have h3 := isMap_st h l 3 (by omega)
    show IsMap ((mSt t l 3).rename nxL mfL).2.D
    generalize mSt t l 3 = s at *
    unfold St.rename
    split
    · exact h3
    split
    · exact h3
    split
    · exact h3
    · exact (h3.del _).put _ _
theorem size_st {t : St} (h : IsMap t.D) (l : List Int) : ∀ k, k ≤ 4 → size (mSt t l k).D ≤ size t.D + 3
  | 0, _ => by show size t.D ≤ _; omega
  | 1, _ => Nat.le_trans (size_delNext h) (by omega)
  | 2, _ => by
    have h1 := size_delNext h
    have h2 := size_write (isMap_st h l 1 (by omega)) nxL (mPut l)
    exact Nat.le_trans h2 (by show size (delNext t).2.D + 1 ≤ _; omega)
  | 3, _ => by
    have h1 := size_delNext h
    have h2 := size_write (isMap_st h l 1 (by omega)) nxL (mPut l)
    have h3 := size_sync (isMap_st h l 2 (by omega)) nxL
    have e1 : size (mSt t l 1).D = size (delNext t).2.D := rfl
    have e2 : size (mSt t l 2).D = size ((mSt t l 1).write nxL (mPut l)).2.D := rfl
    exact Nat.le_trans h3 (by omega)
  | 4, _ => by
    have h1 := size_delNext h
    have h2 := size_write (isMap_st h l 1 (by omega)) nxL (mPut l)
    have h3 := size_sync (isMap_st h l 2 (by omega)) nxL
    have h4 := size_rename (isMap_st h l 3 (by omega)) nxL mfL
    have e1 : size (mSt t l 1).D = size (delNext t).2.D := rfl
    have e2 : size (mSt t l 2).D = size ((mSt t l 1).write nxL (mPut l)).2.D := rfl
    have e3 : size (mSt t l 3).D = size ((mSt t l 2).sync nxL).2.D := rfl
    have h5 : size (mSt t l 4).D ≤ size (mSt t l 3).D + 1 := h4
    omega
theorem isMap_clean {t : St} (h : IsMap t.D) (x : Int) : IsMap (mClean x t).D := by
  unfold mClean
  split
  · exact isMap_delete h _
  · exact h
theorem size_clean {t : St} (h : IsMap t.D) (x : Int) : size (mClean x t).D ≤ size t.D := by
  unfold mClean
  split
  · exact size_delete h _
  · exact Nat.le_refl _
theorem turn_map {t : St} (h : IsMap t.D) (l : List Int) : ∃ k, k ≤ 4 ∧ (mTurn t l).2 = mSt t l k := by
  rcases turn_cases t l with ⟨k, hk, _, _, h2⟩ | ⟨_, h2⟩
  · exact ⟨k + 1, by omega, by rw [h2]⟩
  · exact ⟨4, by omega, by rw [h2]⟩
theorem size_swap {t : St} (h : IsMap t.D) (l : List Int) : size (mSwap t l).2.D ≤ size t.D + 4 := by
  obtain ⟨k, hk, e⟩ := turn_map h l
  unfold mSwap
  split
  · show size (mClean _ _).D ≤ _
    have h1 := isMap_st4 h l k hk
    have h2 := size_st h l k hk
    rw [e]
    have h3 := size_clean h1 (mTurn t l).1
    omega
  · show size t.D ≤ _
    omega
theorem isMap_swap {t : St} (h : IsMap t.D) (l : List Int) : IsMap (mSwap t l).2.D := by
  obtain ⟨k, hk, e⟩ := turn_map h l
  unfold mSwap
  split
  · show IsMap (mClean _ _).D
    rw [e]
    exact isMap_clean (isMap_st4 h l k hk) _
  · exact h
theorem size_crash (t : St) (ks : List Int) : size (t.crash ks).D = size t.D := by
  rw [← size_names, ← size_names]
  show (strKeys (crD ks _ t.D)).length = _
  rw [names_crD]
theorem room_swap (t : St) (l : List Int) : (mSwap t l).2.room = t.room := by
  have hd : ∀ (s : St) (n : List UInt8), (s.delete n).2.room = s.room := fun s n => by
    unfold St.delete
    repeat' split
    all_goals rfl
  have h1 : (delNext t).2.room = t.room := by
    unfold delNext
    split
    · exact hd _ _
    · rfl
  have hw : ∀ (s : St) (n : List UInt8) (b : List Nat), (s.write n b).2.room = s.room := fun s n b => by
    unfold St.write
    repeat' split
    all_goals rfl
  have hs : ∀ (s : St) (n : List UInt8), (s.sync n).2.room = s.room := fun s n => by
    unfold St.sync
    repeat' split
    all_goals rfl
  have hr : ∀ (s : St) (n m : List UInt8), (s.rename n m).2.room = s.room := fun s n m => by
    unfold St.rename
    repeat' split
    all_goals rfl
  have hst : ∀ k, (mSt t l k).room = t.room := fun k => by
    match k with
    | 0 => rfl
    | 1 => exact h1
    | 2 => exact (hw _ _ _).trans h1
    | 3 => exact (hs _ _).trans ((hw _ _ _).trans h1)
    | k + 4 => exact (hr _ _ _).trans ((hs _ _).trans ((hw _ _ _).trans h1))
  have hc : ∀ (x : Int) (s : St), (mClean x s).room = s.room := fun x s => by
    unfold mClean
    split
    · exact hd _ _
    · rfl
  unfold mSwap
  split
  · show (mClean _ _).room = _
    rw [hc]
    rcases turn_cases t l with ⟨k, _, _, _, h2⟩ | ⟨_, h2⟩
    · rw [h2]; exact hst _
    · rw [h2]; exact hst _
  · rfl
theorem mPut_le {l : List Int} (h : mOk l = true) : (mPut l).length ≤ 165 := by
  have := mOk_all h
  unfold mPut
  rw [if_pos h, mRaw_len]
  omega
/-- What is not done though nothing stands still, or fails, has no room. -/
theorem swap_fits {t : St} (hm : IsMap t.D) (hf : t.fuse = -1) (h0 : t.fails = 0) (hsz : size t.D ≤ 60) {l : List Int} (hok : mOk l = true) (h : (mSwap t l).1 ≠ 0) : t.room < 2 * tot (mSwap t l).2.D + 200 := by
  have hP := mPut_le hok
  -- deleteNext is done
  have hd : (delNext t).1 = 0 ∧ (delNext t).2.fuse = -1 ∧ (delNext t).2.fails = 0 ∧ (delNext t).2.room = t.room := by
    unfold delNext
    split
    · rename_i hs
      unfold St.delete
      rw [if_neg (by rw [hf]; decide)]
      cases hfa : fat t.D nxL with
      | none => rw [hfa] at hs; cases hs
      | some f =>
        refine ⟨rfl, ?_, h0, rfl⟩
        show burn t.fuse = -1
        rw [hf]; rfl
    · exact ⟨rfl, hf, h0, rfl⟩
  have a0 : mAns t l 0 = 0 := hd.1
  have n1 := st_1 t l a0
  have m1 := isMap_st hm l 1 (by omega)
  have z1 : size (mSt t l 1).D ≤ 60 := Nat.le_trans (size_delNext hm) hsz
  by_cases hfit : tot (mSt t l 1).D + (mPut l).length ≤ t.room
  · exfalso
    have hfb : fitsB (mSt t l 1).D (mSt t l 1).room nxL (mPut l).length = true := by
      unfold fitsB
      have e1 : decide (size (mSt t l 1).D < 64) = true := by simp; omega
      have e2 : (mSt t l 1).room = t.room := hd.2.2.2
      rw [e1, e2]
      simp [hfit]
    have w1 : (mSt t l 1).write nxL (mPut l) = (0, { (mSt t l 1).burnt with D := (mSt t l 1).D.put (.string nxL) (.held ⟨((fat (mSt t l 1).D nxL).getD Fl.zero).bs ++ mPut l, ((fat (mSt t l 1).D nxL).getD Fl.zero).l⟩) }) := by
      unfold St.write
      rw [if_neg (by rw [show (mSt t l 1).fuse = -1 from hd.2.1]; decide), if_neg (by decide), hfb, if_neg (by decide)]
    have a1 : mAns t l 1 = 0 := by show ((mSt t l 1).write nxL (mPut l)).1 = 0; rw [w1]
    have f2 : (mSt t l 2).fuse = -1 ∧ (mSt t l 2).fails = 0 := by
      show ((mSt t l 1).write nxL (mPut l)).2.fuse = -1 ∧ ((mSt t l 1).write nxL (mPut l)).2.fails = 0
      rw [w1]
      refine ⟨?_, hd.2.2.1⟩
      show burn (delNext t).2.fuse = -1
      rw [hd.2.1]; rfl
    have n2 := st_2 hm l n1 a1
    have s3 : (mSt t l 2).sync nxL = (0, { (mSt t l 2).burnt with D := (mSt t l 2).D.put (.string nxL) (.held ⟨mPut l, (mPut l).length⟩) }) := by
      unfold St.sync
      rw [if_neg (by rw [f2.1]; decide), n2]
      simp only []
      rw [if_neg (by rw [f2.2]; decide)]
    have a2 : mAns t l 2 = 0 := by show ((mSt t l 2).sync nxL).1 = 0; rw [s3]
    have f3 : (mSt t l 3).fuse = -1 := by
      show ((mSt t l 2).sync nxL).2.fuse = -1
      rw [s3]
      show burn (mSt t l 2).fuse = -1
      rw [f2.1]; rfl
    have n3 := st_3 hm l _ n2 a2
    have a3 : mAns t l 3 = 0 := by
      show ((mSt t l 3).rename nxL mfL).1 = 0
      unfold St.rename
      rw [if_neg (by rw [f3]; decide), if_neg (by decide), n3]
    apply h
    unfold mSwap
    rw [if_pos hok, turn_end t l (fun j hj => by match j, hj with | 0, _ => exact a0 | 1, _ => exact a1 | 2, _ => exact a2 | 3, _ => exact a3)]
  · have hfb : fitsB (mSt t l 1).D (mSt t l 1).room nxL (mPut l).length = false := by
      unfold fitsB
      have e2 : (mSt t l 1).room = t.room := hd.2.2.2
      rw [e2, decide_eq_false hfit, Bool.and_false]
    have w1 : (mSt t l 1).write nxL (mPut l) = (5, (mSt t l 1).burnt) := by
      unfold St.write
      rw [if_neg (by rw [show (mSt t l 1).fuse = -1 from hd.2.1]; decide), if_neg (by decide), if_pos hfb]
    have a1 : mAns t l 1 = 5 := by show ((mSt t l 1).write nxL (mPut l)).1 = 5; rw [w1]
    have ht := turn_stop t l 1 (by omega) (fun j hj => by match j, hj with | 0, _ => exact a0) (by rw [a1]; decide)
    rw [a1] at ht
    have e2 : mSt t l 2 = (mSt t l 1).burnt := by show ((mSt t l 1).write nxL (mPut l)).2 = _; rw [w1]
    have hD : (mSwap t l).2.D = (mSt t l 1).D := by
      unfold mSwap
      rw [if_pos hok, ht]
      show (mClean 5 (mSt t l 2)).D = _
      unfold mClean
      rw [if_pos (by decide), e2]
      unfold St.delete
      rw [show fat (mSt t l 1).burnt.D nxL = none from n1]
      split <;> rfl
    rw [hD]
    omega
end
section
set_option linter.unusedSimpArgs false
set_option linter.unusedVariables false
open Go.RowKit Go.Sort Go.Maps
open Crc Frm
open Sgn

theorem nm_inj {x y : Int} (hx : 0 ≤ x ∧ x ≤ 1073741824) (hy : 0 ≤ y ∧ y ≤ 1073741824) (h : nm x = nm y) : x = y := by
  have h1 := fst_nm hx.1 hx.2
  rw [h, fst_nm hy.1 hy.2] at h1
  exact (Prod.mk.inj h1).1.symm
/-- A file's bytes, if it is there. -/
def St.fb (t : St) (s : List UInt8) : Option (List Nat) := (fat t.D s).map (·.bs)
theorem St.bytes_fb (t : St) (s : List UInt8) : t.bytes s = (t.fb s).getD [] := by
  unfold St.bytes St.fb
  cases fat t.D s <;> rfl
/-- A segment's file is its head and frames in a row, and nothing else. -/
structure Seg (t : St) (x : Int) (fs : List Fr) : Prop where
  range : 0 ≤ x ∧ x ≤ 1073741824
  file : t.fb (nm x) = some (head x.toNat ++ rows fs)
  right : ∀ f ∈ fs, f.right
  row : ∀ (j : Nat) (f : Fr), fs[j]? = some f → f.seq = x + (j : Int)
theorem Seg.bytes {t : St} {x : Int} {fs : List Fr} (h : Seg t x fs) : t.bytes (nm x) = head x.toNat ++ rows fs := by
  rw [St.bytes_fb, h.file]
  rfl
theorem Seg.reads {t : St} {x : Int} {fs : List Fr} (h : Seg t x fs) : rd (t.bytes (nm x)) = (x.toNat, fs, 12 + (rows fs).length, 0) := by
  have := rd_head x.toNat (by have := h.range; omega) fs [] h.right (fun j f hj => by have := h.row j f hj; have := h.range; omega) (by simp)
  rw [List.append_nil] at this
  rw [h.bytes]
  exact this
theorem Seg.keep {t t' : St} {x : Int} {fs : List Fr} (h : Seg t x fs) (hk : t'.fb (nm x) = t.fb (nm x)) : Seg t' x fs := ⟨h.range, by rw [hk]; exact h.file, h.right, h.row⟩
theorem Seg.new {t : St} {x : Int} (h : 0 ≤ x ∧ x ≤ 1073741824) (hf : t.fb (nm x) = some (head x.toNat)) : Seg t x [] :=
  ⟨h, by rw [hf]; simp [rows], fun f hf => (by cases hf), fun j f hj => (by simp at hj)⟩
theorem Seg.grow {t t' : St} {x : Int} {fs : List Fr} {f : Fr} (h : Seg t x fs) (hf : f.right) (hs : f.seq = x + (fs.length : Int)) (hk : t'.fb (nm x) = some (t.bytes (nm x) ++ raw f)) : Seg t' x (fs ++ [f]) := by
  refine ⟨h.range, by rw [hk, h.bytes, rows_snoc, List.append_assoc], ?_, ?_⟩
  · intro g hg
    rcases List.mem_append.1 hg with hg | hg
    · exact h.right g hg
    · rw [show g = f from by simpa using hg]; exact hf
  · intro j g hj
    by_cases hl : j < fs.length
    · rw [List.getElem?_append_left hl] at hj
      exact h.row j g hj
    · have hlt := (List.getElem?_eq_some_iff.1 hj).1
      rw [List.length_append, List.length_singleton] at hlt
      have hj' : j = fs.length := by omega
      subst hj'
      rw [List.getElem?_append_right (Nat.le_refl _), Nat.sub_self] at hj
      rw [show g = f from by simpa using hj.symm]
      exact hs
/-- Segments one behind the other, the next number, all frames: all but the last have a frame. -/
def Chain (t : St) : List Int → Int → List Fr → Prop
  | [], _, _ => False
  | [x], n, fs => Seg t x fs ∧ n = x + (fs.length : Int)
  | x :: y :: l, n, fs => ∃ a b, fs = a ++ b ∧ Seg t x a ∧ a ≠ [] ∧ y = x + (a.length : Int) ∧ Chain t (y :: l) n b
theorem Chain.ne {t : St} {l : List Int} {n : Int} {fs : List Fr} (h : Chain t l n fs) : l ≠ [] := by
  rintro rfl
  exact h
theorem Chain.frames {t : St} {n : Int} : ∀ {l : List Int} {fs : List Fr}, Chain t l n fs → (l.flatMap fun x => (rd (t.bytes (nm x))).2.1) = fs
  | [], _, h => h.elim
  | [x], fs, h => by
    rw [List.flatMap_cons, List.flatMap_nil, List.append_nil, h.1.reads]
  | x :: y :: l, fs, h => by
    obtain ⟨a, b, rfl, h1, _, _, h2⟩ := h
    rw [List.flatMap_cons, Chain.frames h2, h1.reads]
theorem Chain.keep {t t' : St} {n : Int} : ∀ {l : List Int} {fs : List Fr}, Chain t l n fs → (∀ x ∈ l, t'.fb (nm x) = t.fb (nm x)) → Chain t' l n fs
  | [], _, h, _ => h.elim
  | [x], fs, h, hk => ⟨h.1.keep (hk x (by simp)), h.2⟩
  | x :: y :: l, fs, h, hk => by
    obtain ⟨a, b, rfl, h1, h3, h4, h2⟩ := h
    exact ⟨a, b, rfl, h1.keep (hk x (by simp)), h3, h4, h2.keep (fun z hz => hk z (by simp [hz]))⟩
/-- All numbers are in order, from the first on up to the next. -/
theorem Chain.order {t : St} {n : Int} : ∀ {l : List Int} {fs : List Fr}, Chain t l n fs → (∀ x ∈ l, 0 ≤ x ∧ x ≤ 1073741824 ∧ l.headD 0 ≤ x ∧ x ≤ n) ∧ n = l.headD 0 + (fs.length : Int)
  | [], _, h => h.elim
  | [x], fs, h => by
    refine ⟨fun z hz => ?_, h.2⟩
    rw [show z = x from by simpa using hz]
    exact ⟨h.1.range.1, h.1.range.2, Int.le_refl _, by have := h.2; omega⟩
  | x :: y :: l, fs, h => by
    obtain ⟨a, b, rfl, h1, h3, h4, h2⟩ := h
    obtain ⟨ho, hn⟩ := h2.order
    have hy : (y :: l).headD 0 = y := rfl
    rw [hy] at hn ho
    refine ⟨fun z hz => ?_, ?_⟩
    · rcases List.mem_cons.1 hz with rfl | hz
      · exact ⟨h1.range.1, h1.range.2, Int.le_refl _, by omega⟩
      · have := ho z hz
        refine ⟨this.1, this.2.1, ?_, this.2.2.2⟩
        show x ≤ z
        omega
    · show n = x + _
      rw [List.length_append]
      omega
theorem Chain.up {t : St} {n : Int} : ∀ {l : List Int} {fs : List Fr}, Chain t l n fs → l.Pairwise (· < ·)
  | [], _, h => h.elim
  | [x], _, _ => List.pairwise_singleton _ _
  | x :: y :: l, fs, h => by
    obtain ⟨a, b, rfl, h1, h3, h4, h2⟩ := h
    have hl : 0 < a.length := List.length_pos_iff.2 h3
    refine List.pairwise_cons.2 ⟨fun z hz => ?_, h2.up⟩
    have := (h2.order.1 z hz).2.2.1
    have hy : (y :: l).headD 0 = y := rfl
    omega
/-- A frame at the last one's end. -/
theorem Chain.grow {t t' : St} {n : Int} {f : Fr} (hf : f.right) (hs : f.seq = n) : ∀ {l : List Int} {fs : List Fr}, Chain t l n fs → (∀ x ∈ l, x ≠ l.getLastD 0 → t'.fb (nm x) = t.fb (nm x)) →
    t'.fb (nm (l.getLastD 0)) = some (t.bytes (nm (l.getLastD 0)) ++ raw f) → Chain t' l (n + 1) (fs ++ [f])
  | [], _, h, _, _ => h.elim
  | [x], fs, h, _, hk => ⟨h.1.grow hf (by have := h.2; omega) hk, by have := h.2; rw [List.length_append]; simp; omega⟩
  | x :: y :: l, fs, h, hk, hl => by
    have hup := h.up
    obtain ⟨a, b, rfl, h1, h3, h4, h2⟩ := h
    have hlast : (x :: y :: l).getLastD 0 = (y :: l).getLastD 0 := rfl
    have hmem : (y :: l).getLastD 0 ∈ y :: l := by
      rw [List.getLastD_eq_getLast?, List.getLast?_eq_some_getLast (by simp)]
      exact List.getLast_mem _
    have hx := (List.pairwise_cons.1 hup).1 _ hmem
    rw [hlast] at hk hl
    refine ⟨a, b ++ [f], List.append_assoc _ _ _, h1.keep (hk x (by simp) (by omega)), h3, h4, h2.grow hf hs (fun z hz hne => hk z (by simp [hz]) hne) hl⟩
/-- Another segment behind the last one, that has a frame. -/
theorem Chain.lay {t t' : St} {n : Int} (hn : n ≤ 1073741824) : ∀ {l : List Int} {fs : List Fr}, Chain t l n fs → l.getLastD 0 < n → (∀ x ∈ l, t'.fb (nm x) = t.fb (nm x)) →
    t'.fb (nm n) = some (head n.toNat) → Chain t' (l ++ [n]) n fs
  | [], _, h, _, _, _ => h.elim
  | [x], fs, h, hlt, hk, hf => by
    have h0 := h.1.range
    have h2 := h.2
    have hlt' : x < n := hlt
    exact ⟨fs, [], by simp, h.1.keep (hk x (by simp)), fun e => by rw [e] at h2; simp at h2; omega, h2, Seg.new (by omega) hf, by simp⟩
  | x :: y :: l, fs, h, hlt, hk, hf => by
    obtain ⟨a, b, rfl, h1, h3, h4, h2⟩ := h
    exact ⟨a, b, rfl, h1.keep (hk x (by simp)), h3, h4, Chain.lay hn h2 hlt (fun z hz => hk z (by simp [hz])) hf⟩
/-- The first ones are gone. -/
theorem Chain.drop {t : St} {n : Int} : ∀ (k : Nat) {l : List Int} {fs : List Fr}, Chain t l n fs → k < l.length → ∃ a b, fs = a ++ b ∧ Chain t (l.drop k) n b ∧ (l.drop k).headD 0 = l.headD 0 + (a.length : Int)
  | 0, l, fs, h, _ => ⟨[], fs, rfl, h, by simp⟩
  | k + 1, [], _, h, _ => h.elim
  | k + 1, [x], _, _, hk => by simp at hk
  | k + 1, x :: y :: l, fs, h, hk => by
    obtain ⟨a, b, rfl, h1, h3, h4, h2⟩ := h
    obtain ⟨a', b', rfl, h5, h6⟩ := h2.drop k (by simpa using hk)
    refine ⟨a ++ a', b', (List.append_assoc _ _ _).symm, h5, ?_⟩
    show ((y :: l).drop k).headD 0 = x + _
    rw [h6, List.length_append]
    show y + _ = _
    omega
end
section
set_option linter.unusedSimpArgs false
set_option linter.unusedVariables false
open Go.RowKit Go.Sort Go.Maps
open Crc Frm
open Sgn

theorem fb_delete_other (t : St) {s s' : List UInt8} (h : s' ≠ s) : (t.delete s).2.fb s' = t.fb s' := by unfold St.fb; rw [fat_delete_other t h]
theorem fb_write_other (t : St) {s s' : List UInt8} (b : List Nat) (h : s' ≠ s) : (t.write s b).2.fb s' = t.fb s' := by unfold St.fb; rw [fat_write_other t b h]
theorem fb_write_no (t : St) (s s' : List UInt8) (b : List Nat) (h : (t.write s b).1 ≠ 0) : (t.write s b).2.fb s' = t.fb s' := by
  unfold St.write at *
  by_cases h0 : t.fuse = 0
  · rw [if_pos h0]
  · rw [if_neg h0] at h ⊢
    by_cases h1 : nmOk s = false
    · rw [if_pos h1]; rfl
    · rw [if_neg h1] at h ⊢
      by_cases h2 : fitsB t.D t.room s b.length = false
      · rw [if_pos h2]; rfl
      · rw [if_neg h2] at h; exact absurd rfl h
theorem fb_write_yes {t : St} (hm : IsMap t.D) (s : List UInt8) (b : List Nat) (h : (t.write s b).1 = 0) : (t.write s b).2.fb s = some (t.bytes s ++ b) := by
  unfold St.write at *
  by_cases h0 : t.fuse = 0
  · rw [if_pos h0] at h; cases h
  · rw [if_neg h0] at h ⊢
    by_cases h1 : nmOk s = false
    · rw [if_pos h1] at h; cases h
    · rw [if_neg h1] at h ⊢
      by_cases h2 : fitsB t.D t.room s b.length = false
      · rw [if_pos h2] at h; cases h
      · rw [if_neg h2]
        unfold St.fb
        show Option.map _ (fat (t.D.put _ _) s) = _
        rw [fat_put_same hm]
        rfl
theorem fb_sync {t : St} (hm : IsMap t.D) (s s' : List UInt8) : (t.sync s).2.fb s' = t.fb s' := by
  by_cases h : s' = s
  · subst h
    unfold St.sync
    by_cases h0 : t.fuse = 0
    · rw [if_pos h0]
    · rw [if_neg h0]
      cases hf : fat t.D s' with
      | none => rfl
      | some f =>
        simp only
        by_cases h1 : 0 < t.fails
        · rw [if_pos h1]; rfl
        · rw [if_neg h1]
          unfold St.fb
          show Option.map _ (fat (t.D.put _ _) s') = _
          rw [fat_put_same hm, hf]
          rfl
  · unfold St.fb; rw [fat_sync_other t h]
theorem fb_rename_other (t : St) {s tn s' : List UInt8} (h : s' ≠ s) (h' : s' ≠ tn) : (t.rename s tn).2.fb s' = t.fb s' := by
  unfold St.rename
  by_cases h0 : t.fuse = 0
  · rw [if_pos h0]
  · rw [if_neg h0]
    by_cases h1 : nmOk tn = false
    · rw [if_pos h1]; rfl
    · rw [if_neg h1]
      cases hf : fat t.D s with
      | none => rfl
      | some f =>
        unfold St.fb
        show Option.map _ (fat ((t.D.del _).put _ _) s') = _
        rw [fat_put_other h', fat_del_other h]
theorem fb_drop_other (t : St) {s s' : List UInt8} (h : s' ≠ s) : (t.drop s).2.fb s' = t.fb s' := by
  unfold St.drop
  split
  · exact fb_delete_other t h
  · rfl
theorem isMap_drop {t : St} (h : IsMap t.D) (s : List UInt8) : IsMap (t.drop s).2.D := by
  unfold St.drop
  split
  · exact isMap_delete h s
  · exact h
theorem thenSt_keep {P : St → Prop} {r : Int × St} {f : St → Int × St} (h1 : P r.2) (h2 : ∀ t, P t → P (f t).2) : P (thenSt r f).2 := by
  unfold thenSt
  split
  · exact h1
  · exact h2 _ h1
theorem thenSt_yes {r : Int × St} {f : St → Int × St} (h : (thenSt r f).1 = 0) : r.1 = 0 ∧ thenSt r f = f r.2 ∧ (f r.2).1 = 0 := by
  unfold thenSt at *
  by_cases h0 : r.1 = 0
  · rw [if_neg (by simp [h0])] at h ⊢
    exact ⟨h0, rfl, h⟩
  · rw [if_pos h0] at h
    exact absurd h h0
/-- Swap leaves all but its two files. -/
theorem fb_swap_other (t : St) (l : List Int) {s : List UInt8} (h1 : s ≠ mfL) (h2 : s ≠ nxL) : (mSwap t l).2.fb s = t.fb s := by
  have hd : (delNext t).2.fb s = t.fb s := by
    unfold delNext
    split
    · exact fb_delete_other t h2
    · rfl
  have hs : ∀ k, (mSt t l k).fb s = t.fb s := by
    have hm : ∀ k, k ≤ 2 → (mSt t l k).fb s = t.fb s := fun k hk => by
      match k, hk with
      | 0, _ => rfl
      | 1, _ => exact hd
      | 2, _ => exact (fb_write_other _ _ h2).trans hd
    have h3 : (mSt t l 3).fb s = t.fb s := (by unfold St.fb; show Option.map _ (fat ((mSt t l 2).sync nxL).2.D s) = _; rw [fat_sync_other _ h2]; exact hm 2 (Nat.le_refl _))
    intro k
    match k with
    | 0 => exact hm 0 (by decide)
    | 1 => exact hm 1 (by decide)
    | 2 => exact hm 2 (by decide)
    | 3 => exact h3
    | k + 4 => exact (fb_rename_other (mSt t l 3) h2 h1).trans h3
  unfold mSwap
  split
  · have ht : (mTurn t l).2.fb s = t.fb s := by
      rcases turn_cases t l with ⟨k, _, _, _, e⟩ | ⟨_, e⟩ <;> rw [e] <;> exact hs _
    show (mClean _ _).fb s = _
    unfold mClean
    split
    · exact (fb_delete_other _ h2).trans ht
    · exact ht
  · rfl
theorem nm_ne_mf (x : Int) (h : 0 ≤ x ∧ x ≤ 1073741824) : nm x ≠ mfL := fun e => by
  unfold nm at e
  rw [if_pos h] at e
  exact absurd (List.cons.inj e).1 (by decide)
theorem nm_ne_nx (x : Int) (h : 0 ≤ x ∧ x ≤ 1073741824) : nm x ≠ nxL := fun e => by
  unfold nm at e
  rw [if_pos h] at e
  exact absurd (List.cons.inj e).1 (by decide)
theorem nm_ne_fx (x : Int) (h : 0 ≤ x ∧ x ≤ 1073741824) : nm x ≠ fxL := fun e => by
  unfold nm at e
  rw [if_pos h] at e
  exact absurd (List.cons.inj e).1 (by decide)
/-- What is kept between calls. -/
structure LInv (g : Lg) (t : St) (fs : List Fr) : Prop where
  chain : Chain t g.segs g.next fs
  map : IsMap t.D
theorem LInv.sync {g : Lg} {t : St} {fs : List Fr} (h : LInv g t fs) : LInv g (lgSync g t).2 fs :=
  ⟨h.chain.keep (fun x _ => fb_sync h.map _ _), isMap_sync h.map _⟩

theorem fb_delete_yes {t : St} (s : List UInt8) (h : (t.delete s).1 = 0) : (t.delete s).2.fb s = none := by
  unfold St.delete at *
  by_cases h0 : t.fuse = 0
  · rw [if_pos h0] at h; cases h
  · rw [if_neg h0] at h ⊢
    cases hf : fat t.D s with
    | none => rw [hf] at h; cases h
    | some f =>
      unfold St.fb
      show Option.map _ (fat (t.D.del _) s) = _
      rw [fat_del_same]
      rfl
theorem fb_drop_yes {t : St} (s : List UInt8) (h : (t.drop s).1 = 0) : (t.drop s).2.fb s = none := by
  unfold St.drop at *
  by_cases hh : t.has s = true
  · rw [if_pos hh] at h ⊢
    exact fb_delete_yes s h
  · rw [if_neg hh]
    unfold St.has at hh
    unfold St.fb
    cases hf : fat t.D s with
    | none => rfl
    | some f => rw [hf] at hh; exact absurd rfl hh
theorem try_map {g : Lg} {t : St} (h : IsMap t.D) (first : Int) : IsMap (lgTry g t first).2.D :=
  thenSt_keep (P := fun t => IsMap t.D) (thenSt_keep (P := fun t => IsMap t.D) (thenSt_keep (P := fun t => IsMap t.D) (isMap_drop h _) fun _ h => isMap_write h _ _) fun _ h => isMap_sync h _) fun _ h => isMap_swap h _
theorem try_other {g : Lg} {t : St} (h : IsMap t.D) (first : Int) {s : List UInt8} (h1 : s ≠ nm first) (h2 : s ≠ mfL) (h3 : s ≠ nxL) : (lgTry g t first).2.fb s = t.fb s := by
  have := thenSt_keep (P := fun u => IsMap u.D ∧ u.fb s = t.fb s) (r := thenSt (thenSt (t.drop (nm first)) fun t => t.write (nm first) (hdo first)) fun t => t.sync (nm first)) (f := fun t => mSwap t (g.segs ++ [first]))
    (thenSt_keep (P := fun u => IsMap u.D ∧ u.fb s = t.fb s) (thenSt_keep (P := fun u => IsMap u.D ∧ u.fb s = t.fb s) ⟨isMap_drop h _, fb_drop_other t h1⟩ fun u hu => ⟨isMap_write hu.1 _ _, (fb_write_other u _ h1).trans hu.2⟩) fun u hu => ⟨isMap_sync hu.1 _, (fb_sync hu.1 _ _).trans hu.2⟩)
    fun u hu => ⟨isMap_swap hu.1 _, (fb_swap_other u _ h2 h3).trans hu.2⟩
  exact this.2
theorem try_yes {g : Lg} {t : St} (h : IsMap t.D) (first : Int) (hr : 0 ≤ first ∧ first ≤ 1073741824) (h0 : (lgTry g t first).1 = 0) : (lgTry g t first).2.fb (nm first) = some (head first.toNat) := by
  unfold lgTry at *
  obtain ⟨a1, e1, _⟩ := thenSt_yes h0
  rw [e1, fb_swap_other _ _ (nm_ne_mf first hr) (nm_ne_nx first hr)]
  obtain ⟨a2, e2, _⟩ := thenSt_yes a1
  rw [e2]
  have hm2 : IsMap (thenSt (t.drop (nm first)) fun t => t.write (nm first) (hdo first)).2.D := thenSt_keep (P := fun t => IsMap t.D) (isMap_drop h _) fun _ h => isMap_write h _ _
  rw [fb_sync hm2]
  obtain ⟨a3, e3, a4⟩ := thenSt_yes a2
  rw [e3, fb_write_yes (isMap_drop h _) _ _ a4, St.bytes_fb, fb_drop_yes _ a3]
  unfold hdo
  rw [if_pos hr]
  rfl
theorem lay_other {g : Lg} {t : St} (h : IsMap t.D) (first : Int) {s : List UInt8} (h1 : s ≠ nm first) (h2 : s ≠ mfL) (h3 : s ≠ nxL) : (lgLay g t first).2.1.fb s = t.fb s := by
  have ht := try_other (g := g) h first h1 h2 h3
  unfold lgLay
  simp only
  split
  · exact ht
  split
  · exact ht
  · exact (fb_delete_other _ h1).trans ht
theorem lay_map {g : Lg} {t : St} (h : IsMap t.D) (first : Int) : IsMap (lgLay g t first).2.1.D := by
  have ht := try_map (g := g) h first
  unfold lgLay
  simp only
  split
  · exact ht
  split
  · exact ht
  · exact isMap_delete ht _
theorem Chain.mem_last {t : St} {l : List Int} {n : Int} {fs : List Fr} (h : Chain t l n fs) : l.getLastD 0 ∈ l := by
  rw [List.getLastD_eq_getLast?, List.getLast?_eq_some_getLast h.ne]
  exact List.getLast_mem _
theorem Chain.le_last {t : St} {n : Int} : ∀ {l : List Int} {fs : List Fr}, Chain t l n fs → ∀ x ∈ l, x ≤ l.getLastD 0
  | [], _, h, _, _ => h.elim
  | [x], _, _, z, hz => by rw [show z = x from by simpa using hz]; exact Int.le_refl _
  | x :: y :: l, fs, h, z, hz => by
    have hup := h.up
    obtain ⟨a, b, rfl, h1, h3, h4, h2⟩ := h
    show z ≤ (y :: l).getLastD 0
    rcases List.mem_cons.1 hz with rfl | hz
    · have := (List.pairwise_cons.1 hup).1 _ h2.mem_last
      omega
    · exact h2.le_last z hz
/-- A segment more, or none: the frames stay. -/
theorem LInv.lay {g : Lg} {t : St} {fs : List Fr} (h : LInv g t fs) (hlt : g.segs.getLastD 0 < g.next) (hn : g.next ≤ 1073741824) :
    LInv (lgLay g t g.next).2.2 (lgLay g t g.next).2.1 fs ∧ (lgLay g t g.next).2.2.next = g.next := by
  have h0 := (h.chain.order.1 _ h.chain.mem_last).1
  have hoth : ∀ x ∈ g.segs, (lgLay g t g.next).2.1.fb (nm x) = t.fb (nm x) := fun x hx => by
    have hr := h.chain.order.1 x hx
    have hle := h.chain.le_last x hx
    exact lay_other h.map _ (fun e => by have := nm_inj ⟨hr.1, hr.2.1⟩ ⟨by omega, hn⟩ e; omega) (nm_ne_mf x ⟨hr.1, hr.2.1⟩) (nm_ne_nx x ⟨hr.1, hr.2.1⟩)
  have hmap := lay_map (g := g) h.map g.next
  have hk := h.chain.keep hoth
  unfold lgLay at *
  simp only at *
  by_cases e : (lgTry g t g.next).1 = 0
  · rw [if_pos e] at hoth hmap ⊢
    exact ⟨⟨Chain.lay hn h.chain hlt hoth (try_yes h.map g.next ⟨by omega, hn⟩ e), hmap⟩, rfl⟩
  · rw [if_neg e] at hk hmap ⊢
    by_cases e2 : (lgTry g t g.next).1 = 42
    · rw [if_pos e2] at hk hmap ⊢
      exact ⟨⟨hk, hmap⟩, rfl⟩
    · rw [if_neg e2] at hk hmap ⊢
      exact ⟨⟨hk, hmap⟩, rfl⟩
theorem LInv.room {g : Lg} {t : St} {fs : List Fr} (h : LInv g t fs) (size more : Nat) (hn : g.next ≤ 1073741824) :
    LInv (lgRoom size g t more).2.2 (lgRoom size g t more).2.1 fs ∧ (lgRoom size g t more).2.2.next = g.next := by
  unfold lgRoom
  by_cases h1 : lgFull size g t more = false
  · rw [if_pos h1]; exact ⟨h, rfl⟩
  · rw [if_neg h1]
    by_cases h2 : 40 ≤ g.segs.length
    · rw [if_pos h2]; exact ⟨h, rfl⟩
    · rw [if_neg h2]
      simp only
      have hs := h.sync
      unfold lgSync at hs
      by_cases h3 : (t.sync (lgLast g)).1 ≠ 0
      · rw [if_pos h3]; exact ⟨hs, rfl⟩
      · rw [if_neg h3]
        refine hs.lay ?_ hn
        have h1 : lgFull size g t more = true := by simpa using h1
        unfold lgFull at h1
        have := (Bool.and_eq_true_iff.1 h1).1
        exact of_decide_eq_true this
/-- Append: what is not done changes no frame; what is done is the last frame, of the next number. -/
theorem LInv.append {g : Lg} {t : St} {fs : List Fr} (h : LInv g t fs) (size : Nat) (kind : Int) (body : List Nat) :
    ((lgAppend size g t kind body).1.2 ≠ 0 → (lgAppend size g t kind body).1.1 = 0 ∧ (lgAppend size g t kind body).2.2.next = g.next ∧ LInv (lgAppend size g t kind body).2.2 (lgAppend size g t kind body).2.1 fs) ∧
    ((lgAppend size g t kind body).1.2 = 0 → (lgAppend size g t kind body).1.1 = g.next ∧ (lgAppend size g t kind body).2.2.next = g.next + 1 ∧ LInv (lgAppend size g t kind body).2.2 (lgAppend size g t kind body).2.1 (fs ++ [⟨kind, g.next, body⟩])) := by
  unfold lgAppend
  simp only
  by_cases hr : (⟨kind, g.next, body⟩ : Fr).right
  · rw [if_neg (by simpa using hr)]
    obtain ⟨hl, hnx⟩ := h.room size (put ⟨kind, g.next, body⟩).length hr.2.2.2.1
    have hput : put ⟨kind, g.next, body⟩ = raw ⟨kind, g.next, body⟩ := by unfold put; rw [if_pos hr]
    generalize lgRoom size g t (put ⟨kind, g.next, body⟩).length = r at *
    obtain ⟨re, rt, rg⟩ := r
    simp only at *
    by_cases h1 : re ≠ 0
    · rw [if_pos h1]
      exact ⟨fun _ => ⟨rfl, hnx, hl⟩, fun e => absurd e h1⟩
    · rw [if_neg h1]
      by_cases h2 : (rt.write (lgLast rg) (put ⟨kind, g.next, body⟩)).1 ≠ 0
      · rw [if_pos h2]
        exact ⟨fun _ => ⟨rfl, hnx, ⟨hl.chain.keep (fun x _ => fb_write_no _ _ _ _ h2), isMap_write hl.map _ _⟩⟩, fun e => absurd e h2⟩
      · rw [if_neg h2]
        refine ⟨fun e => absurd rfl e, fun _ => ⟨rfl, rfl, ?_, isMap_write hl.map _ _⟩⟩
        have hw := fb_write_yes hl.map (lgLast rg) (put ⟨kind, g.next, body⟩) (by simpa using h2)
        have hg := Chain.grow (t' := (rt.write (lgLast rg) (put ⟨kind, g.next, body⟩)).2) hr hnx.symm hl.chain (fun x hx hne => by
          have hx1 := hl.chain.order.1 x hx
          have hx2 := hl.chain.order.1 _ hl.chain.mem_last
          exact fb_write_other _ _ (fun e => hne (nm_inj ⟨hx1.1, hx1.2.1⟩ ⟨hx2.1, hx2.2.1⟩ e))) (by rw [← hput]; exact hw)
        rw [hnx] at hg
        exact hg
  · rw [if_pos (by simpa using hr)]
    exact ⟨fun _ => ⟨rfl, rfl, h⟩, fun e => absurd (show (1 : Int) = 0 from e) (by decide)⟩
end
section
set_option linter.unusedSimpArgs false
set_option linter.unusedVariables false
open Go.RowKit Go.Sort Go.Maps
open Crc Frm
open Sgn

theorem delEach_other : ∀ (l : List (List UInt8)) (e : Int) (t : St) {s : List UInt8}, s ∉ l → (delEach l e t).2.fb s = t.fb s
  | [], _, _, _, _ => rfl
  | x :: l, e, t, s, h => by
    show (delEach l _ (t.delete x).2).2.fb s = _
    rw [delEach_other l _ _ (fun hm => h (by simp [hm])), fb_delete_other t (fun e => h (by simp [e]))]
theorem delEach_map : ∀ (l : List (List UInt8)) (e : Int) (t : St), IsMap t.D → IsMap (delEach l e t).2.D
  | [], _, _, h => h
  | x :: l, e, t, h => delEach_map l _ _ (isMap_delete h x)
theorem lgGone_ltM {g : Lg} (h : g.segs ≠ []) (seq : Int) : lgGone g seq < g.segs.length := by
  unfold lgGone
  cases hs : g.segs with
  | nil => exact absurd hs h
  | cons x l =>
    have := (List.takeWhile_sublist (fun x => decide (x ≤ seq)) (l := l)).length_le
    show (l.takeWhile _).length < l.length + 1
    omega
/-- Retain: the first segments are gone, as a whole; what is left is as it was. -/
theorem LInv.retain {g : Lg} {t : St} {fs : List Fr} (h : LInv g t fs) (seq : Int) :
    ∃ k a b, k ≤ lgGone g seq ∧ ((lgRetain g t seq).1 = 0 → k = lgGone g seq) ∧ fs = a ++ b ∧ LInv (lgRetain g t seq).2.2 (lgRetain g t seq).2.1 b ∧ (lgRetain g t seq).2.2 = ⟨g.segs.drop k, g.next⟩ ∧ (g.segs.drop k).headD 0 = g.segs.headD 0 + (a.length : Int) := by
  unfold lgRetain
  by_cases h0 : lgGone g seq = 0
  · rw [if_pos h0]
    exact ⟨0, [], fs, Nat.zero_le _, fun _ => h0.symm, rfl, h, rfl, by simp⟩
  · rw [if_neg h0]
    simp only
    have hsw : ∀ x ∈ g.segs, (mSwap t (g.segs.drop (lgGone g seq))).2.fb (nm x) = t.fb (nm x) := fun x hx => by
      have hr := h.chain.order.1 x hx
      exact fb_swap_other _ _ (nm_ne_mf x ⟨hr.1, hr.2.1⟩) (nm_ne_nx x ⟨hr.1, hr.2.1⟩)
    have hms : IsMap (mSwap t (g.segs.drop (lgGone g seq))).2.D := isMap_swap h.map _
    by_cases h1 : (mSwap t (g.segs.drop (lgGone g seq))).1 ≠ 0
    · rw [if_pos h1]
      exact ⟨0, [], fs, Nat.zero_le _, fun e => absurd e h1, rfl, ⟨h.chain.keep hsw, hms⟩, rfl, by simp⟩
    · rw [if_neg h1]
      obtain ⟨a, b, hfs, hc, hh⟩ := h.chain.drop (lgGone g seq) (lgGone_ltM h.chain.ne seq)
      refine ⟨lgGone g seq, a, b, Nat.le_refl _, fun _ => rfl, hfs, ⟨hc.keep fun y hy => ?_, delEach_map _ _ _ hms⟩, rfl, hh⟩
      have hy' := List.mem_of_mem_drop hy
      rw [delEach_other _ _ _ ?_, hsw y hy']
      intro hm
      obtain ⟨x, hx, e⟩ := List.mem_map.1 hm
      have hx' := List.mem_of_mem_take hx
      have rx := h.chain.order.1 x hx'
      have ry := h.chain.order.1 y hy'
      have hxy := nm_inj ⟨rx.1, rx.2.1⟩ ⟨ry.1, ry.2.1⟩ e
      have hp := h.chain.up
      rw [← List.take_append_drop (lgGone g seq) g.segs] at hp
      have := (List.pairwise_append.1 hp).2.2 x hx y hy
      omega
theorem LInv.fuse {g : Lg} {t : St} {fs : List Fr} (h : LInv g t fs) (n : Int) : LInv g (t.fuse_ n) fs := ⟨h.chain.keep fun _ _ => rfl, h.map⟩
theorem LInv.fail {g : Lg} {t : St} {fs : List Fr} (h : LInv g t fs) (n : Int) : LInv g (t.fail_ n) fs := ⟨h.chain.keep fun _ _ => rfl, h.map⟩
theorem LInv.frames {g : Lg} {t : St} {fs : List Fr} (h : LInv g t fs) : lgFrames g t = fs := h.chain.frames
theorem LInv.drop_ {g : Lg} {t : St} {fs : List Fr} (h : LInv g t fs) {s : List UInt8} (hs : ∀ x, 0 ≤ x ∧ x ≤ 1073741824 → nm x ≠ s) : LInv g (t.drop s).2 fs :=
  ⟨h.chain.keep fun x hx => by
    have hr := h.chain.order.1 x hx
    exact fb_drop_other _ (hs x ⟨hr.1, hr.2.1⟩), isMap_drop h.map s⟩
/-- A log that begins: no frame, the first number. -/
theorem lay_begins {t : St} (hm : IsMap t.D) (h : (lgLay ⟨[], 0⟩ t 0).1 = 0) : LInv (lgLay ⟨[], 0⟩ t 0).2.2 (lgLay ⟨[], 0⟩ t 0).2.1 [] ∧ (lgLay ⟨[], 0⟩ t 0).2.2 = ⟨[0], 0⟩ := by
  have hmap := lay_map (g := ⟨[], 0⟩) hm 0
  unfold lgLay at *
  simp only at *
  by_cases e : (lgTry ⟨[], 0⟩ t 0).1 = 0
  · rw [if_pos e] at hmap ⊢
    exact ⟨⟨⟨Seg.new ⟨by decide, by decide⟩ (try_yes hm 0 ⟨by decide, by decide⟩ e), by simp⟩, hmap⟩, rfl⟩
  · rw [if_neg e] at h
    by_cases e2 : (lgTry ⟨[], 0⟩ t 0).1 = 42
    · rw [if_pos e2] at h; exact absurd (show (42 : Int) = 0 from h) (by decide)
    · rw [if_neg e2] at h; exact absurd h e
/-- Open of a disk that has no list: a log that begins. -/
theorem open_begins {size : Int} {t : St} {g : Lg} (hm : IsMap t.D) (hl : (mLoad t).1 = []) (h : (lgOpen size t).2.2 = some g) (hc : (lgClean ⟨[], 0⟩ t).2 = t ∧ (lgClean ⟨[], 0⟩ t).1 = 0) : LInv g (lgOpen size t).2.1 [] ∧ g = ⟨[0], 0⟩ := by
  have hrs : lgRestore t = lgLay ⟨[], 0⟩ t 0 := by
    have h2 : ¬ (lgClean ⟨[], 0⟩ t).1 ≠ 0 := by rw [hc.2]; decide
    unfold lgRestore
    rw [hl]
    show (if ([] : List Int) = [] then _ else _) = _
    rw [if_pos rfl]
    show (if (lgClean ⟨[], 0⟩ t).1 ≠ 0 then _ else lgLay ⟨[], 0⟩ (lgClean ⟨[], 0⟩ t).2 0) = _
    rw [if_neg h2, hc.1]
  unfold lgOpen at *
  by_cases hs : size < 64 ∨ 65536 < size
  · rw [if_pos hs] at h; cases h
  · rw [if_neg hs] at h ⊢
    simp only at h ⊢
    rw [hrs] at h ⊢
    by_cases he : (thenSt (thenSt ((lgLay ⟨[], 0⟩ t 0).1, (lgLay ⟨[], 0⟩ t 0).2.1) fun t => t.drop fxL) fun t => t.drop nxL).1 ≠ 0
    · rw [if_pos he] at h; cases h
    · rw [if_neg he] at h ⊢
      have he : (thenSt (thenSt ((lgLay ⟨[], 0⟩ t 0).1, (lgLay ⟨[], 0⟩ t 0).2.1) fun t => t.drop fxL) fun t => t.drop nxL).1 = 0 := by simpa using he
      obtain ⟨a1, e1, _⟩ := thenSt_yes he
      obtain ⟨a2, e2, _⟩ := thenSt_yes a1
      obtain ⟨hi, hg⟩ := lay_begins hm a2
      have hgg : g = (lgLay ⟨[], 0⟩ t 0).2.2 := (Option.some.inj h).symm
      rw [hgg]
      refine ⟨?_, hg⟩
      show LInv _ (thenSt _ _).2 []
      rw [e1, e2]
      exact (hi.drop_ nm_ne_fx).drop_ nm_ne_nx
end
section
set_option linter.unusedSimpArgs false
set_option linter.unusedVariables false
open Go.RowKit Go.Sort Go.Maps
open Crc Frm
open Sgn

/-- A crash leaves a file's first bytes, at least those that last, and all of them last. -/
theorem crash_some {t : St} (h : Good t.D t.room) (ks : List Int) {s : List UInt8} {f : Fl} (hf : fat t.D s = some f) : ∃ n, f.l ≤ n ∧ n ≤ f.bs.length ∧ fat (t.crash ks).D s = some ⟨f.bs.take n, n⟩ := by
  obtain ⟨j, hj⟩ := List.getElem?_of_mem ((names_mem h s).2 (by rw [hf]; rfl))
  have hl : j < size t.D := by rw [← size_names]; exact (List.getElem?_eq_some_iff.1 hj).1
  have hm := crM_le ks j (h.at_ hf).2.1
  exact ⟨crM ks j f, hm.1, hm.2, by show fat (crD ks (size t.D) t.D) s = _; rw [fat_crD ks _ h hj hf, if_pos hl]; rfl⟩
/-- How many frames are whole in so many bytes. -/
theorem cut_at : ∀ (fs : List Fr) (k : Nat), ∃ n, n ≤ fs.length ∧ ends fs n ≤ k ∧ ∀ f, fs[n]? = some f → k < ends fs n + (f.body.length + 11)
  | [], k => ⟨0, Nat.le_refl _, Nat.zero_le _, fun f hf => by cases hf⟩
  | g :: fs, k => by
    by_cases h : k < g.body.length + 11
    · refine ⟨0, Nat.zero_le _, Nat.zero_le _, fun f hf => ?_⟩
      have : g = f := by simpa using hf
      subst this
      show k < 0 + _
      omega
    · obtain ⟨n, h1, h2, h3⟩ := cut_at fs (k - (g.body.length + 11))
      have he : ends (g :: fs) (n + 1) = g.body.length + 11 + ends fs n := by
        unfold ends
        rw [List.take_succ_cons, rows_cons, List.length_append, raw_len]
      refine ⟨n + 1, by simpa using h1, by rw [he]; omega, fun f hf => ?_⟩
      have := h3 f (by simpa using hf)
      rw [he]
      omega
/-- What is read of a segment that is cut behind its head. -/
theorem rd_cut (x : Nat) (hx : x ≤ 1073741824) (fs : List Fr) (hr : ∀ f ∈ fs, f.right) (hj : ∀ (j : Nat) (f : Fr), fs[j]? = some f → f.seq = (x : Int) + (j : Int)) (m : Nat) (hm : 12 ≤ m) :
    ∃ n, n ≤ fs.length ∧ 12 + ends fs n ≤ m ∧ (∀ f, fs[n]? = some f → m < 12 + ends fs n + (f.body.length + 11)) ∧ rd ((head x ++ rows fs).take m) = (x, fs.take n, 12 + ends fs n, 0) := by
  obtain ⟨n, h1, h2, h3⟩ := cut_at fs (m - 12)
  refine ⟨n, h1, by omega, fun f hf => by have := h3 f hf; omega, ?_⟩
  have ht : (head x ++ rows fs).take m = head x ++ (rows fs).take (m - 12) := by
    rw [List.take_append, head_len, List.take_of_length_le (by rw [head_len]; exact hm)]
  rw [ht]
  have hh := rh_head x hx ((rows fs).take (m - 12))
  unfold rd
  rw [hh, if_neg (by simp)]
  have hd : (head x ++ (rows fs).take (m - 12)).drop 12 = (rows fs).take (m - 12) := by
    rw [List.drop_append_of_le_length (by rw [head_len]; decide), List.drop_of_length_le (by rw [head_len]; decide), List.nil_append]
  rw [hd, scan_cut fs x (m - 12) n hr hj h1 h2 h3]
/-- Open goes on behind a whole segment. -/
theorem find_whole {t : St} {x : Int} {a : List Fr} (h : Seg t x a) (l : List Int) {g : Lg} (hg : g.segs = [] ∨ x = g.next) : lgFind t (x :: l) g = lgFind t l ⟨g.segs ++ [x], x + (a.length : Int)⟩ := by
  have hr := h.reads
  have hb : (t.bytes (nm x)).length = 12 + (rows a).length := by rw [h.bytes, List.length_append, head_len]
  have hx := h.range
  show (if (rd (t.bytes (nm x))).2.2.2 ≠ 0 ∨ ((rd (t.bytes (nm x))).1 : Int) ≠ x ∨ ¬ (g.segs = [] ∨ x = g.next) then (g, none) else
    if (rd (t.bytes (nm x))).2.2.1 < (t.bytes (nm x)).length then ((⟨g.segs ++ [x], x + ((rd (t.bytes (nm x))).2.1.length : Int)⟩ : Lg), some ((t.bytes (nm x)).take (rd (t.bytes (nm x))).2.2.1)) else lgFind t l ⟨g.segs ++ [x], x + ((rd (t.bytes (nm x))).2.1.length : Int)⟩) = _
  rw [hr]
  rw [if_neg (by rintro (h1 | h1 | h1) <;> first | exact h1 rfl | exact h1 hg | (simp only at h1; omega)), if_neg (by rw [hb]; simp)]

theorem rows_split (fs : List Fr) (j : Nat) : rows fs = rows (fs.take j) ++ rows (fs.drop j) := by
  conv => lhs; rw [← List.take_append_drop j fs]
  unfold rows
  rw [List.flatMap_append]
theorem ends_up (fs : List Fr) {p q : Nat} (h : p ≤ q) : ends fs p ≤ ends fs q := by
  have e : fs.take p = (fs.take q).take p := by rw [List.take_take, Nat.min_eq_left h]
  unfold ends
  rw [e, rows_split (fs.take q) p, List.length_append]
  omega
theorem take_ends (x : Nat) (fs : List Fr) (j : Nat) : (head x ++ rows fs).take (12 + ends fs j) = head x ++ rows (fs.take j) := by
  rw [List.take_append, head_len, List.take_of_length_le (by rw [head_len]; omega), show 12 + ends fs j - 12 = ends fs j from by omega, rows_split fs j]
  congr 1
  exact List.take_left' rfl
theorem Seg.cut {t : St} {t' : St} {x : Int} {fs : List Fr} (h : Seg t x fs) (j : Nat) (hb : t'.fb (nm x) = some (head x.toNat ++ rows (fs.take j))) : Seg t' x (fs.take j) :=
  ⟨h.range, hb, fun f hf => h.right f (List.mem_of_mem_take hf), fun i f hi => by
    rw [List.getElem?_take] at hi
    split at hi
    · exact h.row i f hi
    · cases hi⟩
/-- What Open finds behind a crash: all segments of the list; of the last one's frames those that are whole, and the good bytes if there are more. -/
theorem find_chain {t t' : St} {n : Int} (m : Nat) (hm : 12 ≤ m) : ∀ {l : List Int} {fs : List Fr}, Chain t l n fs → (∀ x ∈ l, x ≠ l.getLastD 0 → t'.fb (nm x) = t.fb (nm x)) → t'.fb (nm (l.getLastD 0)) = some ((t.bytes (nm (l.getLastD 0))).take m) → m ≤ (t.bytes (nm (l.getLastD 0))).length →
    ∀ g : Lg, (g.segs = [] ∨ l.headD 0 = g.next) → ∃ a b j good, fs = a ++ b ∧ Seg t (l.getLastD 0) b ∧ j ≤ b.length ∧ (∀ p, p ≤ b.length → 12 + ends b p ≤ m → p ≤ j) ∧
      lgFind t' l g = (⟨g.segs ++ l, l.headD 0 + ((a.length + j : Nat) : Int)⟩, good) ∧
      ((good = none ∧ t'.fb (nm (l.getLastD 0)) = some (head (l.getLastD 0).toNat ++ rows (b.take j))) ∨ good = some (head (l.getLastD 0).toNat ++ rows (b.take j))) ∧
      ∀ t'' : St, (∀ x ∈ l, x ≠ l.getLastD 0 → t''.fb (nm x) = t.fb (nm x)) → t''.fb (nm (l.getLastD 0)) = some (head (l.getLastD 0).toNat ++ rows (b.take j)) → Chain t'' l (l.headD 0 + ((a.length + j : Nat) : Int)) (a ++ b.take j)
  | [], _, h, _, _, _, _, _ => h.elim
  | [x], fs, h, _, hl, hml, g, hg => by
    obtain ⟨hs, hn⟩ := h
    have hx := hs.range
    have hxn : x.toNat ≤ 1073741824 := by omega
    have hl : t'.fb (nm x) = some ((t.bytes (nm x)).take m) := hl
    have hml : m ≤ (t.bytes (nm x)).length := hml
    rw [hs.bytes] at hl hml
    obtain ⟨j, h1, h2, h3, h4⟩ := rd_cut x.toNat hxn fs hs.right (fun i f hi => by have := hs.row i f hi; omega) m hm
    have hb : t'.bytes (nm x) = (head x.toNat ++ rows fs).take m := by rw [St.bytes_fb, hl]; rfl
    have hbl : (t'.bytes (nm x)).length = m := by rw [hb, List.length_take]; omega
    have hmax : ∀ p, p ≤ fs.length → 12 + ends fs p ≤ m → p ≤ j := fun p hp hpm => by
      by_cases hpj : p ≤ j
      · exact hpj
      · exfalso
        have hjl : j < fs.length := by omega
        have hf := List.getElem?_eq_getElem hjl
        have e1 := ends_succ fs j _ hf
        have e2 := ends_up fs (show j + 1 ≤ p by omega)
        have e3 := h3 _ hf
        omega
    have hfind : lgFind t' [x] g = if 12 + ends fs j < m then ((⟨g.segs ++ [x], x + ((fs.take j).length : Int)⟩ : Lg), some ((t'.bytes (nm x)).take (12 + ends fs j))) else (⟨g.segs ++ [x], x + ((fs.take j).length : Int)⟩, none) := by
      show (if (rd (t'.bytes (nm x))).2.2.2 ≠ 0 ∨ ((rd (t'.bytes (nm x))).1 : Int) ≠ x ∨ ¬ (g.segs = [] ∨ x = g.next) then (g, none) else
        if (rd (t'.bytes (nm x))).2.2.1 < (t'.bytes (nm x)).length then ((⟨g.segs ++ [x], x + ((rd (t'.bytes (nm x))).2.1.length : Int)⟩ : Lg), some ((t'.bytes (nm x)).take (rd (t'.bytes (nm x))).2.2.1)) else lgFind t' [] ⟨g.segs ++ [x], x + ((rd (t'.bytes (nm x))).2.1.length : Int)⟩) = _
      rw [hbl, show rd (t'.bytes (nm x)) = (x.toNat, fs.take j, 12 + ends fs j, 0) from by rw [hb]; exact h4]
      rw [if_neg (by rintro (h1 | h1 | h1) <;> first | exact h1 rfl | exact h1 hg | (simp only at h1; omega))]
      rfl
    have hlen : (fs.take j).length = j := by rw [List.length_take]; omega
    rw [hlen] at hfind
    have hch : ∀ t'' : St, t''.fb (nm x) = some (head x.toNat ++ rows (fs.take j)) → Chain t'' [x] (x + ((0 + j : Nat) : Int)) ([] ++ fs.take j) := fun t'' hf => ⟨hs.cut j hf, by rw [List.nil_append, hlen]; omega⟩
    by_cases hc : 12 + ends fs j < m
    · rw [if_pos hc] at hfind
      have hg2 : (t'.bytes (nm x)).take (12 + ends fs j) = head x.toNat ++ rows (fs.take j) := by
        rw [hb, List.take_take, Nat.min_eq_left (by omega), take_ends]
      rw [hg2] at hfind
      exact ⟨[], fs, j, _, rfl, hs, h1, hmax, by rw [hfind]; simp, .inr rfl, fun t'' _ hf => hch t'' hf⟩
    · rw [if_neg hc] at hfind
      have he : m = 12 + ends fs j := by omega
      exact ⟨[], fs, j, _, rfl, hs, h1, hmax, by rw [hfind]; simp, .inl ⟨rfl, by show t'.fb (nm x) = _; rw [hl, he, take_ends]; rfl⟩, fun t'' _ hf => hch t'' hf⟩
  | x :: y :: l, fs, h, hk, hl, hml, g, hg => by
    have hup := h.up
    obtain ⟨a, b, rfl, h1, h3, h4, h2⟩ := h
    have hlast : (x :: y :: l).getLastD 0 = (y :: l).getLastD 0 := rfl
    have hx := (List.pairwise_cons.1 hup).1 _ h2.mem_last
    rw [hlast] at hk hl hml
    have hw := find_whole (h1.keep (hk x (by simp) (by omega))) (y :: l) (g := g) hg
    obtain ⟨a', b', j, good, rfl, q1, q2, q3, q4, q5, q6⟩ := find_chain m hm h2 (fun z hz hne => hk z (by simp [hz]) hne) hl hml ⟨g.segs ++ [x], x + (a.length : Int)⟩ (.inr h4)
    have e1 : (y :: l).headD 0 + ((a'.length + j : Nat) : Int) = (x :: y :: l).headD 0 + (((a ++ a').length + j : Nat) : Int) := by
      rw [List.length_append]
      show y + _ = x + _
      omega
    refine ⟨a ++ a', b', j, good, (List.append_assoc _ _ _).symm, q1, q2, q3, ?_, q5, fun t'' hk'' hf => ?_⟩
    · rw [hw, q4, ← e1]
      simp
    · rw [← e1, List.append_assoc]
      exact ⟨a, a' ++ b'.take j, rfl, h1.keep (hk'' x (by simp) (by rw [hlast]; omega)), h3, h4, q6 t'' (fun z hz hne => hk'' z (by simp [hz]) hne) hf⟩
end
section
set_option linter.unusedSimpArgs false
set_option linter.unusedVariables false
open Go.RowKit Go.Sort Go.Maps
open Crc Frm
open Sgn

theorem isMap_rename {t : St} (h : IsMap t.D) (s tn : List UInt8) : IsMap (t.rename s tn).2.D := by
  unfold St.rename
  by_cases h0 : t.fuse = 0
  · rw [if_pos h0]; exact h
  · rw [if_neg h0]
    by_cases h1 : nmOk tn = false
    · rw [if_pos h1]; exact h
    · rw [if_neg h1]
      cases fat t.D s with
      | none => exact h
      | some f => exact (h.del _).put _ _
theorem fb_rename_yes {t : St} (hm : IsMap t.D) (s tn : List UInt8) (h : (t.rename s tn).1 = 0) : (t.rename s tn).2.fb tn = t.fb s := by
  unfold St.rename at *
  by_cases h0 : t.fuse = 0
  · rw [if_pos h0] at h; cases h
  · rw [if_neg h0] at h ⊢
    by_cases h1 : nmOk tn = false
    · rw [if_pos h1] at h; cases h
    · rw [if_neg h1] at h ⊢
      cases hf : fat t.D s with
      | none => rw [hf] at h; cases h
      | some f =>
        unfold St.fb
        show Option.map _ (fat ((t.D.del _).put _ _) tn) = _
        rw [fat_put_same (hm.del _), hf]
theorem delAll_keep {P : St → Prop} (h : ∀ t s, P t → P (t.delete s).2) : ∀ (l : List (List UInt8)) (t : St), P t → P (delAll l t).2
  | [], _, ht => ht
  | x :: l, t, ht => thenSt_keep (h t x ht) (fun u hu => delAll_keep h l u hu)
theorem delAll_other : ∀ (l : List (List UInt8)) (t : St) {s : List UInt8}, s ∉ l → (delAll l t).2.fb s = t.fb s
  | [], _, _, _ => rfl
  | x :: l, t, s, h => thenSt_keep (P := fun u => u.fb s = t.fb s) (fb_delete_other t (fun e => h (by simp [e]))) (fun u hu => (delAll_other l u (fun hm => h (by simp [hm]))).trans hu)
theorem clean_other (g : Lg) (t : St) {x : Int} (hx : 0 ≤ x ∧ x ≤ 1073741824) (hm : x ∈ g.segs) : (lgClean g t).2.fb (nm x) = t.fb (nm x) := by
  refine delAll_other _ t (fun h => ?_)
  have := (List.mem_filter.1 h).2
  rw [fst_nm hx.1 hx.2] at this
  simp [hm] at this
theorem clean_map (g : Lg) {t : St} (h : IsMap t.D) : IsMap (lgClean g t).2.D := delAll_keep (P := fun t => IsMap t.D) (fun _ s h => isMap_delete h s) _ t h
theorem mend_map {g : Lg} {good : Option (List Nat)} {t : St} (h : IsMap t.D) : IsMap (lgMend g good t).2.D := by
  cases good with
  | none => exact h
  | some b =>
    exact thenSt_keep (P := fun t => IsMap t.D) (thenSt_keep (P := fun t => IsMap t.D) (thenSt_keep (P := fun t => IsMap t.D) (isMap_drop h _) fun _ h => isMap_write h _ _) fun _ h => isMap_sync h _) fun _ h => isMap_rename h _ _
/-- Mend leaves all but its two files. -/
theorem mend_other {g : Lg} {good : Option (List Nat)} {t : St} (h : IsMap t.D) {s : List UInt8} (h1 : s ≠ fxL) (h2 : s ≠ lgLast g) : (lgMend g good t).2.fb s = t.fb s := by
  cases good with
  | none => rfl
  | some b =>
    have := thenSt_keep (P := fun u => IsMap u.D ∧ u.fb s = t.fb s) (r := thenSt (thenSt (t.drop fxL) fun t => t.write fxL b) fun t => t.sync fxL) (f := fun t => t.rename fxL (lgLast g))
      (thenSt_keep (P := fun u => IsMap u.D ∧ u.fb s = t.fb s) (thenSt_keep (P := fun u => IsMap u.D ∧ u.fb s = t.fb s) ⟨isMap_drop h _, fb_drop_other t h1⟩ fun u hu => ⟨isMap_write hu.1 _ _, (fb_write_other u _ h1).trans hu.2⟩) fun u hu => ⟨isMap_sync hu.1 _, (fb_sync hu.1 _ _).trans hu.2⟩)
      fun u hu => ⟨isMap_rename hu.1 _ _, (fb_rename_other u h1 h2).trans hu.2⟩
    exact this.2
theorem mend_yes {g : Lg} {b : List Nat} {t : St} (h : IsMap t.D) (h0 : (lgMend g (some b) t).1 = 0) : (lgMend g (some b) t).2.fb (lgLast g) = some b := by
  unfold lgMend at *
  simp only at *
  obtain ⟨a1, e1, a2⟩ := thenSt_yes h0
  have hm3 : IsMap (thenSt (thenSt (t.drop fxL) fun t => t.write fxL b) fun t => t.sync fxL).2.D := thenSt_keep (P := fun t => IsMap t.D) (thenSt_keep (P := fun t => IsMap t.D) (isMap_drop h _) fun _ h => isMap_write h _ _) fun _ h => isMap_sync h _
  rw [e1, fb_rename_yes hm3 _ _ a2]
  obtain ⟨b1, f1, _⟩ := thenSt_yes a1
  have hm2 : IsMap (thenSt (t.drop fxL) fun t => t.write fxL b).2.D := thenSt_keep (P := fun t => IsMap t.D) (isMap_drop h _) fun _ h => isMap_write h _ _
  rw [f1, fb_sync hm2]
  obtain ⟨c1, g1, c2⟩ := thenSt_yes b1
  rw [g1, fb_write_yes (isMap_drop h _) _ _ c2, St.bytes_fb, fb_drop_yes _ c1]
  rfl
/-- Open behind a crash, where the list is that of a chain, the last one's bytes are cut behind the head, and all other segments are whole. -/
theorem open_chain {t t' : St} {n : Int} {l : List Int} {fs : List Fr} (h : Chain t l n fs) (hm' : IsMap t'.D) (hl : (mLoad t').1 = l) (m : Nat) (hm : 12 ≤ m) (hk : ∀ x ∈ l, x ≠ l.getLastD 0 → t'.fb (nm x) = t.fb (nm x))
    (hc : t'.fb (nm (l.getLastD 0)) = some ((t.bytes (nm (l.getLastD 0))).take m)) (hml : m ≤ (t.bytes (nm (l.getLastD 0))).length) {size : Int} {g : Lg} (ho : (lgOpen size t').2.2 = some g) :
    ∃ a b j, fs = a ++ b ∧ Seg t (l.getLastD 0) b ∧ j ≤ b.length ∧ (∀ p, p ≤ b.length → 12 + ends b p ≤ m → p ≤ j) ∧ g = ⟨l, l.headD 0 + ((a.length + j : Nat) : Int)⟩ ∧ LInv g (lgOpen size t').2.1 (a ++ b.take j) := by
  obtain ⟨a, b, j, good, hfs, q1, q2, q3, q4, q5, q6⟩ := find_chain m hm h hk hc hml ⟨[], 0⟩ (.inl rfl)
  rw [List.nil_append] at q4
  obtain ⟨g0, hg0⟩ : ∃ g0 : Lg, g0 = ⟨l, l.headD 0 + ((a.length + j : Nat) : Int)⟩ := ⟨_, rfl⟩
  rw [← hg0] at q4
  have hsg : g0.segs = l := by rw [hg0]
  have hlast : lgLast g0 = nm (l.getLastD 0) := by unfold lgLast; rw [hsg]
  have hrs : lgRestore t' = (let s := thenSt (thenSt (thenSt (0, t') (lgMend g0 good)) (lgClean g0)) (lgSync g0); (s.1, s.2, g0)) := by
    unfold lgRestore
    rw [hl]
    simp only
    rw [q4]
    simp only
    rw [if_neg (by rw [hsg]; exact h.ne), if_pos (by rw [hsg])]
  refine ⟨a, b, j, hfs, q1, q2, q3, ?_⟩
  unfold lgOpen at *
  by_cases hs : size < 64 ∨ 65536 < size
  · rw [if_pos hs] at ho; cases ho
  · rw [if_neg hs] at ho ⊢
    simp only at ho ⊢
    rw [hrs] at ho ⊢
    simp only at ho ⊢
    generalize hR : thenSt (thenSt (thenSt (0, t') (lgMend g0 good)) (lgClean g0)) (lgSync g0) = R at ho ⊢
    by_cases he : (thenSt (thenSt (R.1, R.2) fun t => t.drop fxL) fun t => t.drop nxL).1 ≠ 0
    · rw [if_pos he] at ho; cases ho
    · rw [if_neg he] at ho ⊢
      have he : (thenSt (thenSt (R.1, R.2) fun t => t.drop fxL) fun t => t.drop nxL).1 = 0 := by simpa using he
      obtain ⟨a1, e1, _⟩ := thenSt_yes he
      obtain ⟨a2, e2, _⟩ := thenSt_yes a1
      have hgg : g = g0 := (Option.some.inj ho).symm
      refine ⟨hgg.trans hg0, ?_⟩
      rw [hgg]
      have hR0 : R.1 = 0 := a2
      rw [← hR] at hR0
      obtain ⟨c1, k1, _⟩ := thenSt_yes hR0
      obtain ⟨d1, k2, _⟩ := thenSt_yes c1
      have k3 : thenSt (0, t') (lgMend g0 good) = lgMend g0 good t' := by unfold thenSt; rw [if_neg (by simp)]
      rw [k3] at d1 k2
      have hmm : IsMap (lgMend g0 good t').2.D := mend_map hm'
      have hmc : IsMap (lgClean g0 (lgMend g0 good t').2).2.D := clean_map _ hmm
      have hchain : Chain (lgMend g0 good t').2 l (l.headD 0 + ((a.length + j : Nat) : Int)) (a ++ b.take j) := by
        refine q6 _ (fun x hx hne => ?_) ?_
        · have rx := h.order.1 x hx
          have rl := h.order.1 _ h.mem_last
          rw [mend_other hm' (nm_ne_fx x ⟨rx.1, rx.2.1⟩) (by rw [hlast]; exact fun e => hne (nm_inj ⟨rx.1, rx.2.1⟩ ⟨rl.1, rl.2.1⟩ e))]
          exact hk x hx hne
        · rcases q5 with ⟨rfl, hb⟩ | rfl
          · exact hb
          · rw [← hlast]; exact mend_yes hm' d1
      have hinv : LInv g0 R.2 (a ++ b.take j) := by
        rw [← hR, k1, k3, k2]
        refine LInv.sync ⟨?_, hmc⟩
        rw [hg0]
        refine hchain.keep (fun x hx => ?_)
        have rx := h.order.1 x hx
        rw [← hg0]
        exact clean_other g0 _ ⟨rx.1, rx.2.1⟩ (by rw [hsg]; exact hx)
      show LInv g0 (thenSt (thenSt (R.1, R.2) fun t => t.drop fxL) fun t => t.drop nxL).2 _
      rw [e1, e2]
      exact (hinv.drop_ nm_ne_fx).drop_ nm_ne_nx
end
section
set_option linter.unusedSimpArgs false
set_option linter.unusedVariables false
open Go.RowKit Go.Sort Go.Maps
open Crc Frm
open Sgn

/-- What is kept between calls, with what lasts: the list's file is that of the segments, all but the last of them last as a whole, and of the last one the head and all frames of a number less than S. -/
structure LDur (g : Lg) (t : St) (fs : List Fr) (S : Int) : Prop where
  inv : LInv g t fs
  ok : mOk g.segs = true
  list : Has t.D g.segs
  done : ∀ x ∈ g.segs, x ≠ g.segs.getLastD 0 → ∃ f, fat t.D (nm x) = some f ∧ f.l = f.bs.length
  last : ∃ f b p, fat t.D (nm (g.segs.getLastD 0)) = some f ∧ Seg t (g.segs.getLastD 0) b ∧ 12 ≤ f.l ∧ p ≤ b.length ∧ 12 + ends b p ≤ f.l ∧ S ≤ g.segs.getLastD 0 + (p : Int)
theorem Seg.one {t : St} {x : Int} {a b : List Fr} (ha : Seg t x a) (hb : Seg t x b) : a = b := by
  have h := ha.reads
  rw [hb.reads] at h
  exact (Prod.mk.inj (Prod.mk.inj h).2).1.symm
theorem Chain.last_seg {t : St} {n : Int} : ∀ {l : List Int} {fs : List Fr}, Chain t l n fs → ∃ b, Seg t (l.getLastD 0) b ∧ n = l.getLastD 0 + (b.length : Int)
  | [], _, h => h.elim
  | [x], fs, h => ⟨fs, h⟩
  | x :: y :: l, fs, h => by
    obtain ⟨a, b, rfl, h1, h3, h4, h2⟩ := h
    exact h2.last_seg
theorem LDur.crash {g : Lg} {t : St} {fs : List Fr} {S : Int} (h : LDur g t fs S) (hG : Good t.D t.room) (ks : List Int) (hm' : IsMap (t.crash ks).D) {size : Int} {g' : Lg} (ho : (lgOpen size (t.crash ks)).2.2 = some g') :
    ∃ fs' rest, fs = fs' ++ rest ∧ g'.segs = g.segs ∧ S ≤ g'.next ∧ LInv g' (lgOpen size (t.crash ks)).2.1 fs' := by
  obtain ⟨f, b0, p, hf, hs0, h12, hp, hpe, hS⟩ := h.last
  obtain ⟨m, m1, m2, m3⟩ := crash_some hG ks hf
  have hl : (mLoad (t.crash ks)).1 = g.segs := by rw [load_has h.ok (has_crash hG ks h.list)]
  have hb : t.bytes (nm (g.segs.getLastD 0)) = f.bs := by unfold St.bytes; rw [hf]; rfl
  obtain ⟨a, b, j, e1, q1, q2, q3, q4, q5⟩ := open_chain h.inv.chain hm' hl m (by omega) (fun x hx hne => by
      obtain ⟨fx, hfx, hfl⟩ := h.done x hx hne
      obtain ⟨k, k1, k2, k3⟩ := crash_some hG ks hfx
      unfold St.fb
      rw [k3, hfx, show k = fx.bs.length from by omega]
      simp) (by rw [hb]; unfold St.fb; rw [m3]; rfl) (by rw [hb]; exact m2) ho
  have hbb := hs0.one q1
  subst hbb
  obtain ⟨b', r1, r2⟩ := h.inv.chain.last_seg
  have hbb := r1.one q1
  subst hbb
  have hn := h.inv.chain.order.2
  rw [e1, List.length_append] at hn
  refine ⟨a ++ b'.take j, b'.drop j, ?_, ?_, ?_, q5⟩
  · rw [List.append_assoc, List.take_append_drop]; exact e1
  · rw [q4]
  · rw [q4]
    have := q3 p hp (by omega)
    show S ≤ g.segs.headD 0 + _
    omega
end
section
set_option linter.unusedSimpArgs false
set_option linter.unusedVariables false
open Go.RowKit Go.Sort Go.Maps
open Crc Frm
open Sgn

theorem sync_yes {t : St} (hm : IsMap t.D) (s : List UInt8) (h : (t.sync s).1 = 0) : ∃ f, fat t.D s = some f ∧ fat (t.sync s).2.D s = some ⟨f.bs, f.bs.length⟩ := by
  unfold St.sync at *
  by_cases h0 : t.fuse = 0
  · rw [if_pos h0] at h; cases h
  · rw [if_neg h0] at h ⊢
    cases hf : fat t.D s with
    | none => rw [hf] at h; cases h
    | some f =>
      rw [hf] at h
      simp only at h ⊢
      by_cases h1 : 0 < t.fails
      · rw [if_pos h1] at h; cases h
      · rw [if_neg h1]
        exact ⟨f, rfl, fat_put_same hm _ _⟩
theorem sync_no (t : St) (s s' : List UInt8) (h : (t.sync s).1 ≠ 0) : fat (t.sync s).2.D s' = fat t.D s' := by
  unfold St.sync at *
  by_cases h0 : t.fuse = 0
  · rw [if_pos h0]
  · rw [if_neg h0] at h ⊢
    cases hf : fat t.D s with
    | none => rfl
    | some f =>
      rw [hf] at h
      simp only at h ⊢
      by_cases h1 : 0 < t.fails
      · rw [if_pos h1]; rfl
      · rw [if_neg h1] at h; exact absurd rfl h
theorem write_yes {t : St} (hm : IsMap t.D) (s : List UInt8) (b : List Nat) (h : (t.write s b).1 = 0) : fat (t.write s b).2.D s = some ⟨((fat t.D s).getD Fl.zero).bs ++ b, ((fat t.D s).getD Fl.zero).l⟩ := by
  unfold St.write at *
  by_cases h0 : t.fuse = 0
  · rw [if_pos h0] at h; cases h
  · rw [if_neg h0] at h ⊢
    by_cases h1 : nmOk s = false
    · rw [if_pos h1] at h; cases h
    · rw [if_neg h1] at h ⊢
      by_cases h2 : fitsB t.D t.room s b.length = false
      · rw [if_pos h2] at h; cases h
      · rw [if_neg h2]
        exact fat_put_same hm _ _
theorem write_no (t : St) (s s' : List UInt8) (b : List Nat) (h : (t.write s b).1 ≠ 0) : fat (t.write s b).2.D s' = fat t.D s' := by
  unfold St.write at *
  by_cases h0 : t.fuse = 0
  · rw [if_pos h0]
  · rw [if_neg h0] at h ⊢
    by_cases h1 : nmOk s = false
    · rw [if_pos h1]; rfl
    · rw [if_neg h1] at h ⊢
      by_cases h2 : fitsB t.D t.room s b.length = false
      · rw [if_pos h2]; rfl
      · rw [if_neg h2] at h; exact absurd rfl h
theorem LDur.keep {g : Lg} {t t' : St} {fs : List Fr} {S : Int} (h : LDur g t fs S) (hm : IsMap t'.D) (hk : ∀ x ∈ g.segs, fat t'.D (nm x) = fat t.D (nm x)) (hl : fat t'.D mfL = fat t.D mfL) : LDur g t' fs S := by
  obtain ⟨f, b, p, h1, h2, h3⟩ := h.last
  have hmem := h.inv.chain.mem_last
  refine ⟨⟨h.inv.chain.keep fun x hx => by unfold St.fb; rw [hk x hx], hm⟩, h.ok, by unfold Has; rw [hl]; exact h.list, fun x hx hne => ?_, f, b, p, by rw [hk _ hmem]; exact h1, h2.keep (by unfold St.fb; rw [hk _ hmem]), h3⟩
  rw [hk x hx]
  exact h.done x hx hne
theorem LDur.range {g : Lg} {t : St} {fs : List Fr} {S : Int} (h : LDur g t fs S) {x : Int} (hx : x ∈ g.segs) : 0 ≤ x ∧ x ≤ 1073741824 := ⟨(h.inv.chain.order.1 x hx).1, (h.inv.chain.order.1 x hx).2.1⟩
theorem LDur.ne_last {g : Lg} {t : St} {fs : List Fr} {S : Int} (h : LDur g t fs S) {x : Int} (hx : x ∈ g.segs) (hne : x ≠ g.segs.getLastD 0) : nm x ≠ lgLast g := fun e => hne (nm_inj (h.range hx) (h.range h.inv.chain.mem_last) e)
/-- S is never beyond the next number. -/
theorem LDur.le_next {g : Lg} {t : St} {fs : List Fr} {S : Int} (h : LDur g t fs S) : S ≤ g.next := by
  obtain ⟨f, b, p, _, h2, _, h4, _, h6⟩ := h.last
  obtain ⟨b', r1, r2⟩ := h.inv.chain.last_seg
  have := r1.one h2
  subst this
  omega
/-- Sync: done, all lasts; not done, what lasted lasts. -/
theorem LDur.sync {g : Lg} {t : St} {fs : List Fr} {S : Int} (h : LDur g t fs S) :
    ((lgSync g t).1 = 0 → LDur g (lgSync g t).2 fs g.next ∧ ∃ f, fat (lgSync g t).2.D (lgLast g) = some f ∧ f.l = f.bs.length) ∧ ((lgSync g t).1 ≠ 0 → LDur g (lgSync g t).2 fs S) := by
  have hm := isMap_sync h.inv.map (lgLast g)
  refine ⟨fun e => ?_, fun e => h.keep hm (fun x _ => sync_no t _ _ e) (sync_no t _ _ e)⟩
  obtain ⟨f, hf, hf'⟩ := sync_yes h.inv.map _ e
  refine ⟨?_, _, hf', rfl⟩
  obtain ⟨f0, b, p, h1, h2, h3, h4, h5, h6⟩ := h.last
  have hff : f0 = f := Option.some.inj (h1.symm.trans hf)
  subst hff
  obtain ⟨b', r1, r2⟩ := h.inv.chain.last_seg
  have := r1.one h2
  subst this
  have hbs : f0.bs = head (g.segs.getLastD 0).toNat ++ rows b' := by
    have := r1.bytes
    unfold St.bytes at this
    rw [h1] at this
    exact this
  have hlen : f0.bs.length = 12 + ends b' b'.length := by rw [hbs, List.length_append, head_len, rows_len_ends]
  refine ⟨h.inv.sync, h.ok, ?_, fun x hx hne => ?_, _, b', b'.length, hf', r1.keep (fb_sync h.inv.map _ _), ?_, Nat.le_refl _, ?_, ?_⟩
  · have hne : lgLast g ≠ mfL := nm_ne_mf _ (h.range h.inv.chain.mem_last)
    unfold Has lgSync
    rw [fat_sync_other t (fun e => hne e.symm)]
    exact h.list
  · unfold lgSync
    rw [fat_sync_other t (h.ne_last hx hne)]
    exact h.done x hx hne
  · show 12 ≤ f0.bs.length; omega
  · show _ ≤ f0.bs.length; omega
  · omega
theorem ends_snoc (b : List Fr) (f : Fr) {p : Nat} (h : p ≤ b.length) : ends (b ++ [f]) p = ends b p := by
  unfold ends
  rw [List.take_append_of_le_length h]
/-- A frame written to the last segment: what lasted lasts. -/
theorem LDur.written {g : Lg} {t : St} {fs : List Fr} {S : Int} (h : LDur g t fs S) {f : Fr} (hf : f.right) (hs : f.seq = g.next) (hw : (t.write (lgLast g) (raw f)).1 = 0) :
    LDur { g with next := g.next + 1 } (t.write (lgLast g) (raw f)).2 (fs ++ [f]) S := by
  obtain ⟨f0, b, p, h1, h2, h3, h4, h5, h6⟩ := h.last
  obtain ⟨b', r1, r2⟩ := h.inv.chain.last_seg
  have := r1.one h2
  subst this
  have hwy := write_yes h.inv.map _ _ hw
  rw [show fat t.D (lgLast g) = some f0 from h1] at hwy
  have hfb := fb_write_yes h.inv.map (lgLast g) (raw f) hw
  refine ⟨⟨Chain.grow hf hs h.inv.chain (fun x hx hne => fb_write_other _ _ (h.ne_last hx hne)) hfb, isMap_write h.inv.map _ _⟩, h.ok, ?_, fun x hx hne => ?_, _, b' ++ [f], p, hwy, r1.grow hf (by omega) hfb, h3, by rw [List.length_append]; omega, by rw [ends_snoc b' f h4]; exact h5, h6⟩
  · have hne : lgLast g ≠ mfL := nm_ne_mf _ (h.range h.inv.chain.mem_last)
    unfold Has
    rw [fat_write_other t _ (fun e => hne e.symm)]
    exact h.list
  · show ∃ f, fat (t.write (lgLast g) _).2.D _ = _ ∧ _
    rw [fat_write_other t _ (h.ne_last hx hne)]
    exact h.done x hx hne
theorem LDur.fuse {g : Lg} {t : St} {fs : List Fr} {S : Int} (h : LDur g t fs S) (n : Int) : LDur g (t.fuse_ n) fs S := h.keep h.inv.map (fun _ _ => rfl) rfl
theorem LDur.fail {g : Lg} {t : St} {fs : List Fr} {S : Int} (h : LDur g t fs S) (n : Int) : LDur g (t.fail_ n) fs S := h.keep h.inv.map (fun _ _ => rfl) rfl
end
end Go.Proofs.YtphjpjlifdabfaaGreatDoor

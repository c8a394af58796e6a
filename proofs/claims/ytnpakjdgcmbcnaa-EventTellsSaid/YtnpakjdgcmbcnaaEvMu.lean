/- Events' bytes that are cut; what is read is in one form; which errors there are. -/
import Derived.Test.YtnpakjdgcmbcnaaEvMt
namespace Go.Proofs.Ytnpakjdgcmbcnaa
open Go.RowKit
namespace Evn
open Wir

/-- Fewer bytes are left than r: it came to their end, or it will. -/
def Ct (s : RS) (r : List Nat) : Prop := s.e = 13 ∨ (s.e = 0 ∧ ∃ j, j < r.length ∧ s.bs.drop s.n = r.take j)
theorem Ct.told {α : Type} {s : RS} {f : List Nat → α × Nat × Nat} {z v : α} {a r : List Nat} (h : Ct s (a ++ r)) (h1 : ∀ j, f (a ++ r.take j) = (v, a.length, 0)) (h2 : ∀ j, j < a.length → (f (a.take j)).2.2 = 13) :
    Ct (s.told f z).2 r ∧ ((s.told f z).2.e = 0 → (s.told f z).1 = v) := by
  rcases h with he | ⟨he, j, hj, hd⟩
  · unfold RS.told
    rw [if_pos (by omega)]
    exact ⟨.inl he, fun h => by simp only at h; omega⟩
  · unfold RS.told
    rw [if_neg (by omega), hd]
    by_cases hs : a.length ≤ j
    · have e : (a ++ r).take j = a ++ r.take (j - a.length) := by rw [List.take_append, List.take_of_length_le hs]
      rw [e, h1]
      simp only
      rw [if_neg (by simp)]
      refine ⟨.inr ⟨he, j - a.length, by rw [List.length_append] at hj; omega, ?_⟩, fun _ => rfl⟩
      simp only
      rw [← List.drop_drop, hd, e, List.drop_left]
    · have e : (a ++ r).take j = a.take j := List.take_append_of_le_length (by omega)
      rw [e, h2 j (by omega), if_pos (by decide)]
      exact ⟨.inl rfl, fun h => by simp at h⟩
theorem Ct.num {s : RS} {k : Int} {r : List Nat} (h : Ct s (dg (cnt k) ++ r)) (hk : I64 k) : Ct s.num.2 r :=
  (h.told (z := 0) (v := k) (fun j => by rw [num_dg _ (cnt_lt hk.1 hk.2), unc_cnt]) (fun j hj => by rw [num_cut _ (cnt_lt hk.1 hk.2) _ hj])).1
theorem wi_cut {k l m : Int} (hk : I64 k) {j : Nat} (hj : j < (dg (cnt k)).length) : (wi l m ((dg (cnt k)).take j)).2.2 = 13 := by
  unfold wi
  rw [num_cut _ (cnt_lt hk.1 hk.2) _ hj]
  rfl
theorem Ct.int {s : RS} {k l m : Int} {r : List Nat} (h : Ct s (dg (cnt k) ++ r)) (hk : I64 k) (hb : l ≤ k ∧ k ≤ m) : Ct (s.int l m).2 r ∧ ((s.int l m).2.e = 0 → (s.int l m).1 = k) :=
  h.told (fun j => wi_dg hk hb _) (fun j hj => wi_cut hk hj)
theorem stay {α : Type} {s : RS} (h : s.e = 13) (f : List Nat → α × Nat × Nat) (z : α) : s.told f z = (z, s) := by
  unfold RS.told
  rw [if_pos (by omega)]
theorem Ct.rows : ∀ {l : List (Int × Int)} {s : RS} {r : List Nat}, Ct s (nb (pairs l) ++ r) → All64 (pairs l) → Ct (rowsR l.length s).2 r
  | [], s, r, h, _ => h
  | x :: l, s, r, h, ha => by
    have e : pairs (x :: l) = x.1 :: x.2 :: pairs l := rfl
    rw [e, nb_cons2, nb_cons2] at h
    rw [e] at ha
    have h2 := (h.num (ha _ (by simp))).num (ha _ (by simp))
    have ha2 : All64 (pairs l) := fun y hy => ha y (by simp [hy])
    have h3 := Ct.rows h2 ha2
    exact h3
theorem Ct.getRows {l : List (Int × Int)} {s : RS} {r : List Nat} (h : Ct s (nb ((l.length : Int) :: pairs l) ++ r)) (ha : All64 (pairs l)) (hl : l.length ≤ 8) : Ct (getRows s).2 r := by
  rw [nb_cons2] at h
  obtain ⟨h1, h2⟩ := h.int (l := 0) (m := 8) ⟨by omega, by omega⟩ (by omega)
  unfold Evn.getRows
  by_cases he : (s.int 0 8).2.e = 0
  · have : (s.int 0 8).1.toNat = l.length := by rw [h2 he]; simp
    rw [this]
    exact h1.rows ha
  · have e13 : (s.int 0 8).2.e = 13 := by rcases h1 with h3 | h3; exact h3; exact absurd h3.1 he
    have key : ∀ (n : Nat) (t : RS), t.e = 13 → (rowsR n t).2.e = 13 := by
      intro n
      induction n with
      | zero => exact fun t h => h
      | succ n ih =>
        intro t ht
        have e1 : t.num.2 = t := by unfold RS.num; rw [stay ht]
        show (rowsR n t.num.2.num.2).2.e = 13
        rw [e1, e1]
        exact ih t ht
    exact .inl (key _ _ e13)
theorem Ct.pl {p : Pl} {s : RS} {r : List Nat} (h : Ct s (nb (polN p) ++ r)) (hp : Pl64 p) : Ct (getPl s).2 r := by
  rw [polN_eq] at h
  have h := h.num (hp.nums _ (by simp))
  have h := h.num (hp.nums _ (by simp))
  have h := h.getRows hp.bands hp.lb
  have h := h.num (hp.nums _ (by simp))
  have h := h.num (hp.nums _ (by simp))
  have h := h.num (hp.nums _ (by simp))
  have h := h.num (hp.nums _ (by simp))
  have h := h.getRows hp.slots hp.ls
  unfold getPl
  dsimp only
  exact h
theorem Ct.cf {c : Cf} {s : RS} {r : List Nat} (h : Ct s (nb (confN c) ++ r)) (hc : All64 (confN c)) : Ct (getCf s).2 r := by
  unfold confN at h hc
  simp only [nb_cons2, nb_nil] at h
  have h := h.num (hc _ (by simp))
  have h := h.num (hc _ (by simp))
  have h := h.num (hc _ (by simp))
  have h := h.num (hc _ (by simp))
  have h := h.num (hc _ (by simp))
  have h := h.num (hc _ (by simp))
  have h := h.num (hc _ (by simp))
  have h := h.num (hc _ (by simp))
  have h := h.num (hc _ (by simp))
  have h := h.num (hc _ (by simp))
  have h := h.num (hc _ (by simp))
  have h := h.num (hc _ (by simp))
  unfold getCf
  dsimp only
  exact h
theorem Ct.text {s : RS} {t r : List Nat} {m : Int} (h : Ct s ((dg (cnt (t.length : Int)) ++ t) ++ r)) (hm : (t.length : Int) ≤ m) (hl : t.length ≤ 1000000) : Ct (s.text m).2 r := by
  have hk : I64 (t.length : Int) := ⟨by omega, by omega⟩
  refine (h.told (z := []) (v := t) (fun j => tx_dg hm hl) (fun j hj => ?_)).1
  unfold tx
  by_cases h1 : j < (dg (cnt (t.length : Int))).length
  · rw [List.take_append_of_le_length (by omega), wi_cut hk h1, if_pos (by decide)]
  · have e : (dg (cnt (t.length : Int)) ++ t).take j = dg (cnt (t.length : Int)) ++ t.take (j - (dg (cnt (t.length : Int))).length) := by rw [List.take_append, List.take_of_length_le (by omega)]
    rw [e, wi_dg hk ⟨by omega, hm⟩]
    simp only
    rw [List.length_append] at hj
    rw [if_neg (by simp), if_pos (by rw [List.length_append, List.length_take]; simp; omega)]
theorem Ct.ev {e : Ev} {s : RS} {r : List Nat} (hr : rightR e = true) (h64 : Ev64 e) (h : Ct s (code e ++ r)) : Ct (getEv e.kind s).2 r := by
  have hl := right_len hr
  have hk := right_kind hr
  have n64 := h64.nums
  unfold getEv
  unfold code at h
  split at h
  · rename_i k
    rw [if_pos k]
    simp only [nb_cons2, nb_nil] at h
    exact (h.num (n64 _ (by simp))).num (n64 _ (by simp))
  rename_i k1
  rw [if_neg k1]
  split at h
  · rename_i k
    rw [if_pos k]
    simp only [nb_cons2, nb_nil] at h
    exact h.num (n64 _ (by simp))
  rename_i k2
  rw [if_neg k2]
  split at h
  · rename_i k
    rw [if_pos k]
    rw [nb_cons2] at h
    have := (h.num (n64 _ (by simp))).pl ⟨h64.pol, h64.bands, h64.slots, hl.1, hl.2.1⟩
    generalize getPl s.num.2 = q at this ⊢
    exact this
  rename_i k3
  rw [if_neg k3]
  split at h
  · rename_i k
    rw [if_pos k]
    have := h.cf h64.conf
    generalize getCf s = q at this ⊢
    exact this
  rename_i k4
  rw [if_neg k4]
  split at h
  · rename_i k
    rw [if_pos k]
    simp only [nb_cons2, nb_nil] at h
    exact (h.num (n64 _ (by simp))).num (n64 _ (by simp))
  rename_i k5
  rw [if_neg k5]
  split at h
  · rename_i k
    rw [if_pos k]
    simp only [nb_cons2, nb_nil] at h
    exact h.num (n64 _ (by simp))
  rename_i k6
  rw [if_neg k6]
  split at h
  · rename_i k
    rw [if_pos k]
    exact h.text (m := 1700) (by have := hl.2.2; omega) (by have := hl.2.2; omega)
  · omega
/-- Fewer bytes are none's. -/
theorem get_cut {e : Ev} (hr : rightR e = true) (h : Ev64 e) {k : Nat} (hk : k < (code e).length) : getR e.kind ((code e).take k) = (ofKind 0, 13) := by
  have h1 : Ct (getEv e.kind ⟨(code e).take k, 0, 0⟩).2 [] := Ct.ev hr h (.inr ⟨rfl, k, by simpa using hk, by simp⟩)
  have h2 : (getEv e.kind ⟨(code e).take k, 0, 0⟩).2.e = 13 := by
    rcases h1 with h1 | ⟨_, j, hj, _⟩
    · exact h1
    · simp at hj
  have h3 : (getEv e.kind ⟨(code e).take k, 0, 0⟩).2.end_ = 13 := by
    unfold RS.end_
    rw [if_neg (by omega), h2]
  unfold getR
  rw [h3, if_pos (by decide)]

/-- What was read between s and t, if nothing was wrong; its bytes are still the same. -/
structure Bk (s t : RS) (ds : List Nat) : Prop where
  bs : t.bs = s.bs
  ok : t.e = 0 → s.e = 0 ∧ s.bs.drop s.n = ds ++ t.bs.drop t.n
theorem Bk.refl (s : RS) : Bk s s [] := ⟨rfl, fun h => ⟨h, rfl⟩⟩
theorem Bk.trans {s t u : RS} {a b : List Nat} (h : Bk s t a) (k : Bk t u b) : Bk s u (a ++ b) :=
  ⟨k.bs.trans h.bs, fun he => by
    obtain ⟨h1, h2⟩ := k.ok he
    obtain ⟨h3, h4⟩ := h.ok h1
    exact ⟨h3, by rw [h4, h2, List.append_assoc]⟩⟩
theorem Bk.num {s : RS} (h : s.Ok) : Bk s s.num.2 (dg (cnt s.num.1)) := by
  refine ⟨num_bs s, fun he => ?_⟩
  unfold RS.num RS.told at he ⊢
  by_cases h0 : s.e ≠ 0
  · rw [if_pos h0] at he; exact absurd he h0
  · rw [if_neg h0] at he ⊢
    by_cases h1 : (Wir.num (s.bs.drop s.n)).2.2 ≠ 0
    · rw [if_pos h1] at he; exact absurd he h1
    · rw [if_neg h1] at he ⊢
      refine ⟨by simpa using h0, ?_⟩
      obtain ⟨c, hc, h2, h3, h4⟩ := num_form h.drop (by simpa using h1)
      rw [h2]
      simp only
      rw [cnt_unc, ← List.drop_drop]
      conv => lhs; rw [← List.take_append_drop (dg c).length (s.bs.drop s.n), h3]
theorem Bk.int {s : RS} (h : s.Ok) (l m : Int) : Bk s (s.int l m).2 (dg (cnt (s.int l m).1)) := by
  refine ⟨int_bs s l m, fun he => ?_⟩
  unfold RS.int RS.told at he ⊢
  by_cases h0 : s.e ≠ 0
  · rw [if_pos h0] at he; exact absurd he h0
  · rw [if_neg h0] at he ⊢
    by_cases h1 : (wi l m (s.bs.drop s.n)).2.2 ≠ 0
    · rw [if_pos h1] at he; exact absurd he h1
    · rw [if_neg h1] at he ⊢
      refine ⟨by simpa using h0, ?_⟩
      unfold wi at h1 ⊢
      by_cases h5 : (Wir.num (s.bs.drop s.n)).2.2 ≠ 0
      · rw [if_pos h5] at h1; exact absurd h5 h1
      · rw [if_neg h5] at h1 ⊢
        by_cases h6 : (Wir.num (s.bs.drop s.n)).1 < l ∨ m < (Wir.num (s.bs.drop s.n)).1
        · rw [if_pos h6] at h1; simp at h1
        · rw [if_neg h6]
          obtain ⟨c, hc, h2, h3, h4⟩ := num_form h.drop (by simpa using h5)
          rw [h2]
          simp only
          rw [cnt_unc, ← List.drop_drop]
          conv => lhs; rw [← List.take_append_drop (dg c).length (s.bs.drop s.n), h3]
theorem Bk.rows : ∀ (n : Nat) {s : RS}, s.Ok → Bk s (rowsR n s).2 (nb (pairs (rowsR n s).1))
  | 0, s, _ => Bk.refl s
  | n + 1, s, h => by
    have e : pairs (rowsR (n + 1) s).1 = s.num.1 :: s.num.2.num.1 :: pairs (rowsR n s.num.2.num.2).1 := rfl
    rw [e, nb_cons, nb_cons]
    exact (Bk.num h).trans ((Bk.num h.num.1).trans (Bk.rows n h.num.1.num.1))
theorem Bk.getRows {s : RS} (h : s.Ok) : Bk s (Evn.getRows s).2 (nb (((Evn.getRows s).1.length : Int) :: pairs (Evn.getRows s).1)) := by
  have h2 := int_in s 8 (by decide)
  have hl : (Evn.getRows s).1.length = (s.int 0 8).1.toNat := rowsR_len _ _
  have e : (((Evn.getRows s).1.length : Nat) : Int) = (s.int 0 8).1 := by omega
  rw [nb_cons, e]
  exact (Bk.int h 0 8).trans (Bk.rows _ (h.int 0 8).1)
theorem Bk.pl {s : RS} (h : s.Ok) : Bk s (getPl s).2 (nb (polN (getPl s).1)) := by
  have h1 := h.num.1
  have h2 := h1.num.1
  have h3 := (getRows64 h2).2.1
  have h4 := h3.num.1
  have h5 := h4.num.1
  have h6 := h5.num.1
  have h7 := h6.num.1
  have := (Bk.num h).trans ((Bk.num h1).trans ((Bk.getRows h2).trans ((Bk.num h3).trans ((Bk.num h4).trans ((Bk.num h5).trans ((Bk.num h6).trans (Bk.getRows h7)))))))
  have e := polN_eq (getPl s).1 []
  rw [List.append_nil] at e
  rw [e, List.append_nil]
  unfold getPl
  dsimp only
  exact this
theorem Bk.cf {s : RS} (h : s.Ok) : Bk s (getCf s).2 (nb (confN (getCf s).1)) := by
  have h1 := h.num.1
  have h2 := h1.num.1
  have h3 := h2.num.1
  have h4 := h3.num.1
  have h5 := h4.num.1
  have h6 := h5.num.1
  have h7 := h6.num.1
  have h8 := h7.num.1
  have h9 := h8.num.1
  have ha := h9.num.1
  have hb := ha.num.1
  have hc := hb.num.1
  have := (Bk.num h).trans ((Bk.num h1).trans ((Bk.num h2).trans ((Bk.num h3).trans ((Bk.num h4).trans ((Bk.num h5).trans ((Bk.num h6).trans ((Bk.num h7).trans ((Bk.num h8).trans ((Bk.num h9).trans ((Bk.num ha).trans ((Bk.num hb).trans (Bk.refl _))))))))))))
  unfold getCf confN
  dsimp only
  simp only [nb_cons]
  exact this
theorem Bk.text {s : RS} (h : s.Ok) (m : Int) (hm : 0 ≤ m) : Bk s (s.text m).2 (dg (cnt ((s.text m).1.length : Int)) ++ (s.text m).1) := by
  refine ⟨told_bs s _ _, fun he => ?_⟩
  unfold RS.text RS.told at he ⊢
  by_cases h0 : s.e ≠ 0
  · rw [if_pos h0] at he; exact absurd he h0
  · rw [if_neg h0] at he ⊢
    by_cases h1 : (tx m (s.bs.drop s.n)).2.2 ≠ 0
    · rw [if_pos h1] at he; exact absurd he h1
    · rw [if_neg h1] at he ⊢
      refine ⟨by simpa using h0, ?_⟩
      unfold tx at h1 ⊢
      by_cases h5 : (wi 0 m (s.bs.drop s.n)).2.2 ≠ 0
      · rw [if_pos h5] at h1; exact absurd h5 h1
      · rw [if_neg h5] at h1 ⊢
        by_cases h6 : (s.bs.drop s.n).length - (wi 0 m (s.bs.drop s.n)).2.1 < (wi 0 m (s.bs.drop s.n)).1.toNat
        · rw [if_pos h6] at h1; simp at h1
        · rw [if_neg h6]
          simp only
          unfold wi at h5 h6 ⊢
          by_cases h7 : (Wir.num (s.bs.drop s.n)).2.2 ≠ 0
          · rw [if_pos h7] at h5; exact absurd h7 h5
          · rw [if_neg h7] at h5 h6 ⊢
            by_cases h8 : (Wir.num (s.bs.drop s.n)).1 < 0 ∨ m < (Wir.num (s.bs.drop s.n)).1
            · rw [if_pos h8] at h5; simp at h5
            · rw [if_neg h8] at h6 ⊢
              obtain ⟨c, hc, h2, h3, h4⟩ := num_form h.drop (by simpa using h7)
              rw [h2] at h6 h8 ⊢
              simp only at h6 h8 ⊢
              have hlen : (((s.bs.drop s.n).drop (dg c).length).take (unc c).toNat).length = (unc c).toNat := by rw [List.length_take, List.length_drop]; omega
              have e1 : ((((s.bs.drop s.n).drop (dg c).length).take (unc c).toNat).length : Int) = unc c := by rw [hlen]; omega
              rw [e1, cnt_unc, ← List.drop_drop, ← List.drop_drop, List.append_assoc, List.take_append_drop]
              conv => lhs; rw [← List.take_append_drop (dg c).length (s.bs.drop s.n), h3]
theorem Bk.ev {s : RS} (h : s.Ok) (k : Int) : Bk s (getEv k s).2 (code (getEv k s).1) := by
  have b1 := Bk.num h
  have b2 := b1.trans (Bk.num h.num.1)
  have e2 : ∀ x y : Int, nb [x, y] = dg (cnt x) ++ dg (cnt y) := fun x y => by simp [nb]
  have e1 : ∀ x : Int, nb [x] = dg (cnt x) := fun x => by simp [nb]
  unfold getEv
  by_cases k1 : k = 1
  · rw [if_pos k1]; subst k1
    show Bk s _ (nb [s.num.1, s.num.2.num.1]); rw [e2]; exact b2
  rw [if_neg k1]
  by_cases k2 : k = 2
  · rw [if_pos k2]; subst k2
    show Bk s _ (nb [s.num.1]); rw [e1]; exact b1
  rw [if_neg k2]
  by_cases k3 : k = 3
  · rw [if_pos k3]; subst k3
    have := b1.trans (Bk.pl h.num.1)
    generalize getPl s.num.2 = q at this ⊢
    show Bk s _ (nb (s.num.1 :: polN q.1)); rw [nb_cons]; exact this
  rw [if_neg k3]
  by_cases k4 : k = 4
  · rw [if_pos k4]; subst k4
    have := Bk.cf h
    generalize getCf s = q at this ⊢
    exact this
  rw [if_neg k4]
  by_cases k5 : k = 5
  · rw [if_pos k5]; subst k5
    show Bk s _ (nb [s.num.1, s.num.2.num.1]); rw [e2]; exact b2
  rw [if_neg k5]
  by_cases k6 : k = 6 ∨ k = 7
  · rw [if_pos k6]
    rcases k6 with rfl | rfl
    · show Bk s _ (nb [s.num.1]); rw [e1]; exact b1
    · show Bk s _ (nb [s.num.1]); rw [e1]; exact b1
  rw [if_neg k6]
  by_cases k8 : k = 8
  · rw [if_pos k8]; subst k8
    exact Bk.text h 1700 (by decide)
  rw [if_neg k8]
  have e : code (ofKind k) = [] := by
    unfold code
    have ek : (ofKind k).kind = k := rfl
    rw [ek, if_neg k1, if_neg k2, if_neg k3, if_neg k4, if_neg k5, if_neg k6, if_neg k8]
  rw [e]
  exact Bk.refl s
theorem getEv_kind (k : Int) (s : RS) : (getEv k s).1.kind = k := by
  unfold getEv
  split
  · rfl
  split
  · rfl
  split
  · rfl
  split
  · rfl
  split
  · rfl
  split
  · rfl
  split <;> rfl
/-- What is got is right, of its kind, and has just those bytes. -/
theorem get_back {k : Int} {bs : List Nat} (hb : ∀ c ∈ bs, c < 256) (h : (getR k bs).2 = 0) : rightR (getR k bs).1 = true ∧ (getR k bs).1.kind = k ∧ code (getR k bs).1 = bs := by
  have hok : RS.Ok ⟨bs, 0, 0⟩ := ⟨Nat.zero_le _, hb, by show 0 < 100; decide⟩
  unfold getR at h ⊢
  by_cases h1 : (getEv k ⟨bs, 0, 0⟩).2.end_ ≠ 0
  · rw [if_pos h1] at h; exact absurd h h1
  · rw [if_neg h1] at h ⊢
    by_cases h2 : rightR (getEv k ⟨bs, 0, 0⟩).1 = true
    · rw [if_pos h2]
      refine ⟨h2, getEv_kind k _, ?_⟩
      have hB := Bk.ev hok k
      have h3 : (getEv k ⟨bs, 0, 0⟩).2.e = 0 ∧ (getEv k ⟨bs, 0, 0⟩).2.bs.length ≤ (getEv k ⟨bs, 0, 0⟩).2.n := by
        have h1' : (getEv k ⟨bs, 0, 0⟩).2.end_ = 0 := by simpa using h1
        unfold RS.end_ at h1'
        split at h1'
        · cases h1'
        · rename_i hn
          exact ⟨h1', by omega⟩
      have h4 := (hB.ok h3.1).2
      rw [List.drop_eq_nil_of_le h3.2, List.append_nil] at h4
      exact h4.symm
    · rw [if_neg h2] at h; cases h
/-- Else it is nothing, with one of two errors. -/
theorem get_no {k : Int} {bs : List Nat} (hb : ∀ c ∈ bs, c < 256) (h : (getR k bs).2 ≠ 0) : (getR k bs).1 = ofKind 0 := by
  unfold getR at h ⊢
  split
  · rfl
  split
  · rename_i h1 h2
    rw [if_neg h1, if_pos h2] at h
    exact absurd rfl h
  · rfl
def E3 (s : RS) : Prop := s.e = 0 ∨ s.e = 12 ∨ s.e = 13
theorem E3.told {α : Type} {s : RS} {f : List Nat → α × Nat × Nat} {z : α} (h : E3 s) (hf : (f (s.bs.drop s.n)).2.2 = 0 ∨ (f (s.bs.drop s.n)).2.2 = 12 ∨ (f (s.bs.drop s.n)).2.2 = 13) : E3 (s.told f z).2 := by
  unfold RS.told
  split
  · exact h
  split
  · exact hf
  · exact h
theorem num_e (b : List Nat) : (Wir.num b).2.2 = 0 ∨ (Wir.num b).2.2 = 12 ∨ (Wir.num b).2.2 = 13 := by
  by_cases h : (Wir.num b).2.2 = 0
  · exact .inl h
  · exact .inr (num_bad h).2
theorem wi_e (l m : Int) (b : List Nat) : (wi l m b).2.2 = 0 ∨ (wi l m b).2.2 = 12 ∨ (wi l m b).2.2 = 13 := by
  unfold wi
  split
  · exact num_e b
  split
  · exact .inr (.inl rfl)
  · exact .inl rfl
theorem tx_e (m : Int) (b : List Nat) : (tx m b).2.2 = 0 ∨ (tx m b).2.2 = 12 ∨ (tx m b).2.2 = 13 := by
  unfold tx
  split
  · exact wi_e 0 m b
  split
  · exact .inr (.inr rfl)
  · exact .inl rfl
theorem E3.num {s : RS} (h : E3 s) : E3 s.num.2 := h.told (num_e _)
theorem E3.rows : ∀ (n : Nat) {s : RS}, E3 s → E3 (rowsR n s).2
  | 0, _, h => h
  | n + 1, _, h => E3.rows n h.num.num
theorem E3.getRows {s : RS} (h : E3 s) : E3 (getRows s).2 := E3.rows _ (h.told (wi_e 0 8 _))
theorem E3.pl {s : RS} (h : E3 s) : E3 (getPl s).2 := by
  have := h.num.num.getRows.num.num.num.num.getRows
  unfold getPl
  dsimp only
  exact this
theorem E3.cf {s : RS} (h : E3 s) : E3 (getCf s).2 := by
  have := h.num.num.num.num.num.num.num.num.num.num.num.num
  unfold getCf
  dsimp only
  exact this
theorem E3.ev {s : RS} (h : E3 s) (k : Int) : E3 (getEv k s).2 := by
  have hp := h.num.pl
  have hc := h.cf
  unfold getEv
  generalize getPl s.num.2 = q at hp ⊢
  generalize getCf s = c at hc ⊢
  split
  · exact h.num.num
  split
  · exact h.num
  split
  · exact hp
  split
  · exact hc
  split
  · exact h.num.num
  split
  · exact h.num
  split
  · exact h.told (tx_e 1700 _)
  · exact h
theorem get_err (k : Int) (bs : List Nat) : (getR k bs).2 = 0 ∨ (getR k bs).2 = 12 ∨ (getR k bs).2 = 13 := by
  have h := E3.ev (s := ⟨bs, 0, 0⟩) (.inl rfl) k
  unfold getR
  split
  · unfold RS.end_
    split
    · exact .inr (.inl rfl)
    · exact h
  split
  · exact .inl rfl
  · exact .inr (.inl rfl)
/-- Of no kind. -/
theorem get_none {k : Int} (hk : ¬ (1 ≤ k ∧ k ≤ 8)) (bs : List Nat) : getR k bs = (ofKind 0, 12) := by
  have e : getEv k ⟨bs, 0, 0⟩ = (ofKind k, ⟨bs, 0, 0⟩) := by
    unfold getEv
    rw [if_neg (by omega), if_neg (by omega), if_neg (by omega), if_neg (by omega), if_neg (by omega), if_neg (by omega), if_neg (by omega)]
  have hr : ¬ rightR (ofKind k) = true := fun h => hk (right_kind h)
  unfold getR
  rw [e]
  simp only
  by_cases h0 : 0 < bs.length
  · have : RS.end_ ⟨bs, 0, 0⟩ = 12 := by unfold RS.end_; rw [if_pos ⟨rfl, h0⟩]
    rw [this, if_pos (by decide)]
  · have : RS.end_ ⟨bs, 0, 0⟩ = 0 := by unfold RS.end_; rw [if_neg (by simp; simpa using h0)]
    rw [this, if_neg (by simp), if_neg hr]
end Evn
end Go.Proofs.Ytnpakjdgcmbcnaa

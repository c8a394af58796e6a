/- Events there and back, as plain mathematics. -/
import Derived.Test.YtnpakjdgcmbcnaaEvO
namespace Go.Proofs.Ytnpakjdgcmbcnaa
open Go.RowKit
namespace Evn
open Wir

theorem told_bs {α : Type} (s : RS) (f : List Nat → α × Nat × Nat) (z : α) : (s.told f z).2.bs = s.bs := by
  unfold RS.told
  split
  · rfl
  split <;> rfl
theorem num_bs (s : RS) : s.num.2.bs = s.bs := told_bs s _ _
theorem int_bs (s : RS) (l m : Int) : (s.int l m).2.bs = s.bs := told_bs s _ _
/-- What is left to read. -/
structure Rd (s : RS) (r : List Nat) : Prop where
  e : s.e = 0
  d : s.bs.drop s.n = r
theorem Rd.told {α : Type} {s : RS} {f : List Nat → α × Nat × Nat} {z : α} {a r : List Nat} {v : α} (h : Rd s (a ++ r)) (hf : f (a ++ r) = (v, a.length, 0)) : (s.told f z).1 = v ∧ Rd (s.told f z).2 r := by
  unfold RS.told
  rw [if_neg (by have := h.e; omega), h.d, hf]
  simp only
  rw [if_neg (by simp)]
  exact ⟨rfl, h.e, by simp only; rw [← List.drop_drop, h.d, List.drop_left]⟩
theorem Rd.num {s : RS} {k : Int} {r : List Nat} (h : Rd s (dg (cnt k) ++ r)) (hk : I64 k) : s.num.1 = k ∧ Rd s.num.2 r :=
  h.told (by rw [num_dg _ (cnt_lt hk.1 hk.2), unc_cnt])
theorem wi_dg {k l m : Int} (hk : I64 k) (hb : l ≤ k ∧ k ≤ m) (r : List Nat) : wi l m (dg (cnt k) ++ r) = (k, (dg (cnt k)).length, 0) := by
  unfold wi
  rw [num_dg _ (cnt_lt hk.1 hk.2), unc_cnt]
  simp only
  rw [if_neg (by simp), if_neg (by omega)]
theorem Rd.int {s : RS} {k l m : Int} {r : List Nat} (h : Rd s (dg (cnt k) ++ r)) (hk : I64 k) (hb : l ≤ k ∧ k ≤ m) : (s.int l m).1 = k ∧ Rd (s.int l m).2 r :=
  h.told (wi_dg hk hb r)
theorem nb_cons2 (x : Int) (l : List Int) (r : List Nat) : nb (x :: l) ++ r = dg (cnt x) ++ (nb l ++ r) := by rw [nb_cons, List.append_assoc]
theorem nb_nil (r : List Nat) : nb [] ++ r = r := rfl
theorem Rd.rows : ∀ {l : List (Int × Int)} {s : RS} {r : List Nat}, Rd s (nb (pairs l) ++ r) → All64 (pairs l) → (rowsR l.length s).1 = l ∧ Rd (rowsR l.length s).2 r
  | [], s, r, h, _ => ⟨rfl, h⟩
  | x :: l, s, r, h, ha => by
    have e : pairs (x :: l) = x.1 :: x.2 :: pairs l := rfl
    rw [e, nb_cons2, nb_cons2] at h
    rw [e] at ha
    obtain ⟨h1, h2⟩ := h.num (ha _ (by simp))
    obtain ⟨h3, h4⟩ := h2.num (ha _ (by simp))
    obtain ⟨h5, h6⟩ := Rd.rows h4 (fun y hy => ha y (by simp [hy]))
    refine ⟨?_, h6⟩
    show (s.num.1, s.num.2.num.1) :: (rowsR l.length s.num.2.num.2).1 = x :: l
    rw [h1, h3, h5]
theorem Rd.getRows {l : List (Int × Int)} {s : RS} {r : List Nat} (h : Rd s (nb ((l.length : Int) :: pairs l) ++ r)) (ha : All64 (pairs l)) (hl : l.length ≤ 8) : (getRows s).1 = l ∧ Rd (getRows s).2 r := by
  rw [nb_cons2] at h
  obtain ⟨h1, h2⟩ := h.int (l := 0) (m := 8) ⟨by omega, by omega⟩ (by omega)
  have : (s.int 0 8).1.toNat = l.length := by rw [h1]; simp
  unfold Evn.getRows
  rw [this]
  exact h2.rows ha
structure Pl64 (p : Pl) : Prop where
  nums : All64 [p.kind, p.target, p.kp, p.ki, p.kd, p.period]
  bands : All64 (pairs p.bands)
  slots : All64 (pairs p.slots)
  lb : p.bands.length ≤ 8
  ls : p.slots.length ≤ 8
theorem polN_eq (p : Pl) (r : List Nat) : nb (polN p) ++ r = dg (cnt p.kind) ++ (dg (cnt p.target) ++ (nb ((p.bands.length : Int) :: pairs p.bands) ++ (dg (cnt p.kp) ++ (dg (cnt p.ki) ++ (dg (cnt p.kd) ++ (dg (cnt p.period) ++ (nb ((p.slots.length : Int) :: pairs p.slots) ++ r))))))) := by
  unfold polN
  simp only [nb_append, nb_cons, List.append_assoc]
  simp [nb]
theorem Rd.pl {p : Pl} {s : RS} {r : List Nat} (h : Rd s (nb (polN p) ++ r)) (hp : Pl64 p) : (getPl s).1 = p ∧ Rd (getPl s).2 r := by
  rw [polN_eq] at h
  obtain ⟨a1, h⟩ := h.num (hp.nums _ (by simp))
  obtain ⟨a2, h⟩ := h.num (hp.nums _ (by simp))
  obtain ⟨a3, h⟩ := h.getRows hp.bands hp.lb
  obtain ⟨a4, h⟩ := h.num (hp.nums _ (by simp))
  obtain ⟨a5, h⟩ := h.num (hp.nums _ (by simp))
  obtain ⟨a6, h⟩ := h.num (hp.nums _ (by simp))
  obtain ⟨a7, h⟩ := h.num (hp.nums _ (by simp))
  obtain ⟨a8, h⟩ := h.getRows hp.slots hp.ls
  unfold getPl
  dsimp only
  exact ⟨by rw [a1, a2, a3, a4, a5, a6, a7, a8], h⟩
theorem Rd.cf {c : Cf} {s : RS} {r : List Nat} (h : Rd s (nb (confN c) ++ r)) (hc : All64 (confN c)) : (getCf s).1 = c ∧ Rd (getCf s).2 r := by
  unfold confN at h hc
  simp only [nb_cons2, nb_nil] at h
  obtain ⟨a1, h⟩ := h.num (hc _ (by simp))
  obtain ⟨a2, h⟩ := h.num (hc _ (by simp))
  obtain ⟨a3, h⟩ := h.num (hc _ (by simp))
  obtain ⟨a4, h⟩ := h.num (hc _ (by simp))
  obtain ⟨a5, h⟩ := h.num (hc _ (by simp))
  obtain ⟨a6, h⟩ := h.num (hc _ (by simp))
  obtain ⟨a7, h⟩ := h.num (hc _ (by simp))
  obtain ⟨a8, h⟩ := h.num (hc _ (by simp))
  obtain ⟨a9, h⟩ := h.num (hc _ (by simp))
  obtain ⟨b1, h⟩ := h.num (hc _ (by simp))
  obtain ⟨b2, h⟩ := h.num (hc _ (by simp))
  obtain ⟨b3, h⟩ := h.num (hc _ (by simp))
  unfold getCf
  dsimp only
  exact ⟨by rw [a1, a2, a3, a4, a5, a6, a7, a8, a9, b1, b2, b3], h⟩
theorem tx_dg {t r : List Nat} {m : Int} (hm : (t.length : Int) ≤ m) (hl : t.length ≤ 1000000) : tx m ((dg (cnt (t.length : Int)) ++ t) ++ r) = (t, (dg (cnt (t.length : Int)) ++ t).length, 0) := by
  unfold tx
  rw [List.append_assoc, wi_dg ⟨by omega, by omega⟩ ⟨by omega, hm⟩]
  simp only
  rw [if_neg (by simp), if_neg (by simp), List.drop_left]
  simp
theorem Rd.text {s : RS} {t r : List Nat} {m : Int} (h : Rd s ((dg (cnt (t.length : Int)) ++ t) ++ r)) (hm : (t.length : Int) ≤ m) (hl : t.length ≤ 1000000) : (s.text m).1 = t ∧ Rd (s.text m).2 r :=
  h.told (tx_dg hm hl)
/-- What a right event has of its own is all that it has. -/
theorem right_own {e : Ev} (h : rightR e = true) : nothingR (clearE e) = true ∧ boundedR e = true := by
  unfold rightR at h
  rw [Bool.and_eq_true] at h
  exact ⟨h.2, h.1⟩
theorem nothing_iff {e : Ev} (h : nothingR e = true) : e.util = 0 ∧ e.demand = 0 ∧ e.t = 0 ∧ e.id = 0 ∧ e.n = 0 ∧ e.pol = zeroPl ∧ e.conf = zeroCf ∧ e.body = [] := by
  unfold nothingR at h
  simp only [Bool.and_eq_true, decide_eq_true_eq, zeroR_iff, cfZero_iff, List.length_eq_zero_iff] at h
  obtain ⟨⟨h1, h2, h3⟩, ⟨h4, h5⟩, h6, h7, h8⟩ := h
  exact ⟨h1, h2, h3, h4, h5, h6, h7, h8⟩
theorem bandsR_64 : ∀ {l : List (Int × Int)} {q : Int}, bandsR q l = true → -1000000000 ≤ q → ∀ x ∈ pairs l, -1000000000 ≤ x ∧ x ≤ 1099511627776
  | [], _, _, _, x, hx => by simp [pairs] at hx
  | y :: l, q, h, hq, x, hx => by
    simp only [bandsR, Bool.and_eq_true, decide_eq_true_eq] at h
    have e : pairs (y :: l) = y.1 :: y.2 :: pairs l := rfl
    rw [e] at hx
    rcases List.mem_cons.1 hx with rfl | hx
    · omega
    rcases List.mem_cons.1 hx with rfl | hx
    · omega
    · exact bandsR_64 h.2.2 (by omega) x hx
theorem slotsR_64 {p : Int} (hp : p ≤ 1099511627776) : ∀ {l : List (Int × Int)} {q : Int}, slotsR p q l = true → -1000000000 ≤ q → ∀ x ∈ pairs l, -1000000000 ≤ x ∧ x ≤ 1099511627776
  | [], _, _, _, x, hx => by simp [pairs] at hx
  | y :: l, q, h, hq, x, hx => by
    simp only [slotsR, Bool.and_eq_true, decide_eq_true_eq] at h
    have e : pairs (y :: l) = y.1 :: y.2 :: pairs l := rfl
    rw [e] at hx
    rcases List.mem_cons.1 hx with rfl | hx
    · omega
    rcases List.mem_cons.1 hx with rfl | hx
    · omega
    · exact slotsR_64 hp h.2.2 (by omega) x hx
theorem zero64 : Pl64 zeroPl := ⟨fun x hx => by simp [zeroPl] at hx; subst hx; exact ⟨by decide, by decide⟩, fun x hx => by simp [zeroPl, pairs] at hx, fun x hx => by simp [zeroPl, pairs] at hx, by simp [zeroPl], by simp [zeroPl]⟩
/-- A right policy is short. -/
theorem polR_len {p : Pl} (h : polR p = true) : p.bands.length ≤ 8 ∧ p.slots.length ≤ 8 := by
  unfold polR at h
  have hz : ∀ q : Pl, zeroR q = true → q.bands = [] ∧ q.slots = [] := fun q hq => by rw [zeroR_iff.1 hq]; exact ⟨rfl, rfl⟩
  split at h
  · rw [Bool.and_eq_true] at h
    have := hz _ h.2
    simp only at this
    rw [this.1, this.2]; simp
  split at h
  · rw [Bool.and_eq_true] at h
    have := hz _ h.2
    simp only at this
    rw [this.2]
    have h1 := h.1
    unfold bandsOk at h1
    simp only [Bool.and_eq_true, decide_eq_true_eq] at h1
    exact ⟨h1.1.2, by simp⟩
  split at h
  · rw [Bool.and_eq_true] at h
    have := hz _ h.2
    simp only at this
    rw [this.1, this.2]; simp
  split at h
  · rw [Bool.and_eq_true, Bool.and_eq_true] at h
    have := hz _ h.2
    simp only at this
    rw [this.1]
    have h1 := h.1.2
    unfold slotsOk at h1
    simp only [Bool.and_eq_true, decide_eq_true_eq] at h1
    exact ⟨by simp, h1.1.2⟩
  · cases h
theorem right_len {e : Ev} (h : rightR e = true) : e.pol.bands.length ≤ 8 ∧ e.pol.slots.length ≤ 8 ∧ e.body.length ≤ 1700 := by
  obtain ⟨h1, h2⟩ := right_own h
  have hk := right_kind h
  unfold clearE at h1
  unfold boundedR at h2
  split at h1
  · have n := nothing_iff h1
    simp only at n
    rw [n.2.2.2.2.2.1, n.2.2.2.2.2.2.2]; simp [zeroPl]
  split at h1
  · have n := nothing_iff h1
    simp only at n
    rw [n.2.2.2.2.2.1, n.2.2.2.2.2.2.2]; simp [zeroPl]
  split at h1
  · rename_i k1 k2 k3
    have n := nothing_iff h1
    simp only at n
    rw [if_neg (by omega), if_pos k3] at h2
    rw [n.2.2.2.2.2.2.2]
    simp only [Bool.and_eq_true, Bool.or_eq_true] at h2
    rcases h2.2 with h3 | h3
    · have := polR_len h3; simp; omega
    · rw [zeroR_iff.1 h3.2]; simp [zeroPl]
  split at h1
  · have n := nothing_iff h1
    simp only at n
    rw [n.2.2.2.2.2.1, n.2.2.2.2.2.2.2]; simp [zeroPl]
  split at h1
  · have n := nothing_iff h1
    simp only at n
    rw [n.2.2.2.2.2.1, n.2.2.2.2.2.2.2]; simp [zeroPl]
  split at h1
  · have n := nothing_iff h1
    simp only at n
    rw [n.2.2.2.2.2.1, n.2.2.2.2.2.2.2]; simp [zeroPl]
  split at h1
  · rename_i k8
    have n := nothing_iff h1
    simp only at n
    rw [if_neg (by omega), if_neg (by omega), if_neg (by omega), if_neg (by omega), if_neg (by omega), if_pos k8] at h2
    rw [n.2.2.2.2.2.1]
    have := of_decide_eq_true h2
    simp [zeroPl]; exact this
  · omega
theorem ev_ext {a b : Ev} (h1 : a.kind = b.kind) (h2 : a.util = b.util) (h3 : a.demand = b.demand) (h4 : a.t = b.t) (h5 : a.id = b.id) (h6 : a.n = b.n) (h7 : a.pol = b.pol) (h8 : a.conf = b.conf) (h9 : a.body = b.body) : a = b := by
  cases a; cases b; simp_all
/-- What was written is read. -/
theorem Rd.ev {e : Ev} {s : RS} {r : List Nat} (hr : rightR e = true) (h64 : Ev64 e) (h : Rd s (code e ++ r)) : (getEv e.kind s).1 = e ∧ Rd (getEv e.kind s).2 r := by
  obtain ⟨o1, o2⟩ := right_own hr
  have hl := right_len hr
  have hk := right_kind hr
  have n64 := h64.nums
  unfold getEv
  unfold code at h
  unfold clearE at o1
  split at h
  · rename_i k
    rw [if_pos k] at o1
    have n := nothing_iff o1
    simp only at n
    rw [if_pos k]
    simp only [nb_cons2, nb_nil] at h
    obtain ⟨a1, h⟩ := h.num (n64 _ (by simp))
    obtain ⟨a2, h⟩ := h.num (n64 _ (by simp))
    exact ⟨ev_ext rfl a1 a2 n.2.2.1.symm n.2.2.2.1.symm n.2.2.2.2.1.symm n.2.2.2.2.2.1.symm n.2.2.2.2.2.2.1.symm n.2.2.2.2.2.2.2.symm, h⟩
  rename_i k1
  rw [if_neg k1] at o1 ⊢
  split at h
  · rename_i k
    rw [if_pos k] at o1
    have n := nothing_iff o1
    simp only at n
    rw [if_pos k]
    simp only [nb_cons2, nb_nil] at h
    obtain ⟨a1, h⟩ := h.num (n64 _ (by simp))
    exact ⟨ev_ext rfl n.1.symm n.2.1.symm a1 n.2.2.2.1.symm n.2.2.2.2.1.symm n.2.2.2.2.2.1.symm n.2.2.2.2.2.2.1.symm n.2.2.2.2.2.2.2.symm, h⟩
  rename_i k2
  rw [if_neg k2] at o1 ⊢
  split at h
  · rename_i k
    rw [if_pos k] at o1
    have n := nothing_iff o1
    simp only at n
    rw [if_pos k]
    rw [nb_cons2] at h
    obtain ⟨a1, h⟩ := h.num (n64 _ (by simp))
    obtain ⟨a2, h⟩ := h.pl ⟨h64.pol, h64.bands, h64.slots, hl.1, hl.2.1⟩
    generalize getPl s.num.2 = q at a2 h ⊢
    dsimp only
    exact ⟨ev_ext rfl n.1.symm n.2.1.symm n.2.2.1.symm a1 n.2.2.2.2.1.symm a2 n.2.2.2.2.2.2.1.symm n.2.2.2.2.2.2.2.symm, h⟩
  rename_i k3
  rw [if_neg k3] at o1 ⊢
  split at h
  · rename_i k
    rw [if_pos k] at o1
    have n := nothing_iff o1
    simp only at n
    rw [if_pos k]
    obtain ⟨a1, h⟩ := h.cf h64.conf
    generalize getCf s = q at a1 h ⊢
    dsimp only
    exact ⟨ev_ext rfl n.1.symm n.2.1.symm n.2.2.1.symm n.2.2.2.1.symm n.2.2.2.2.1.symm n.2.2.2.2.2.1.symm a1 n.2.2.2.2.2.2.2.symm, h⟩
  rename_i k4
  rw [if_neg k4] at o1 ⊢
  split at h
  · rename_i k
    rw [if_pos k] at o1
    have n := nothing_iff o1
    simp only at n
    rw [if_pos k]
    simp only [nb_cons2, nb_nil] at h
    obtain ⟨a1, h⟩ := h.num (n64 _ (by simp))
    obtain ⟨a2, h⟩ := h.num (n64 _ (by simp))
    exact ⟨ev_ext rfl n.1.symm n.2.1.symm a1 n.2.2.2.1.symm a2 n.2.2.2.2.2.1.symm n.2.2.2.2.2.2.1.symm n.2.2.2.2.2.2.2.symm, h⟩
  rename_i k5
  rw [if_neg k5] at o1 ⊢
  split at h
  · rename_i k
    rw [if_pos k] at o1
    have n := nothing_iff o1
    simp only at n
    rw [if_pos k]
    simp only [nb_cons2, nb_nil] at h
    obtain ⟨a1, h⟩ := h.num (n64 _ (by simp))
    exact ⟨ev_ext rfl n.1.symm n.2.1.symm n.2.2.1.symm a1 n.2.2.2.2.1.symm n.2.2.2.2.2.1.symm n.2.2.2.2.2.2.1.symm n.2.2.2.2.2.2.2.symm, h⟩
  rename_i k6
  rw [if_neg k6] at o1 ⊢
  split at h
  · rename_i k
    rw [if_pos k] at o1
    have n := nothing_iff o1
    simp only at n
    rw [if_pos k]
    obtain ⟨a1, h⟩ := h.text (m := 1700) (by have := hl.2.2; omega) (by have := hl.2.2; omega)
    generalize s.text 1700 = q at a1 h ⊢
    dsimp only
    exact ⟨ev_ext rfl n.1.symm n.2.1.symm n.2.2.1.symm n.2.2.2.1.symm n.2.2.2.2.1.symm n.2.2.2.2.2.1.symm n.2.2.2.2.2.2.1.symm a1, h⟩
  · omega
/-- A right event's bytes are few. -/
theorem right_code {e : Ev} (hr : rightR e = true) (h : Ev64 e) : (code e).length ≤ 1800 := by
  obtain ⟨l1, l2, l3⟩ := right_len hr
  have n1 := h.nums
  have p1 := h.pol
  have hb : I64 (e.pol.bands.length : Int) := ⟨by omega, by omega⟩
  have hs : I64 (e.pol.slots.length : Int) := ⟨by omega, by omega⟩
  have hN : All64 (e.id :: polN e.pol) := by
    intro x hx
    simp only [polN, List.mem_cons, List.mem_append, List.not_mem_nil, or_false] at hx
    rcases hx with rfl | (rfl | rfl | rfl) | hx | (rfl | rfl | rfl | rfl | rfl) | hx
    · exact n1 _ (by simp)
    · exact p1 _ (by simp)
    · exact p1 _ (by simp)
    · exact hb
    · exact h.bands x hx
    · exact p1 _ (by simp)
    · exact p1 _ (by simp)
    · exact p1 _ (by simp)
    · exact p1 _ (by simp)
    · exact hs
    · exact h.slots x hx
  unfold code
  split
  · have := nb_len [e.util, e.demand] (all_sub n1 (by simp)); simp only [List.length_cons, List.length_nil] at this; omega
  split
  · have := nb_len [e.t] (all_sub n1 (by simp)); simp only [List.length_cons, List.length_nil] at this; omega
  split
  · have := nb_len _ hN
    have hl : (e.id :: polN e.pol).length ≤ 60 := by
      simp only [polN, List.length_cons, List.length_append, List.length_nil, pairs_len]; omega
    omega
  split
  · have := nb_len _ h.conf; simp only [confN, List.length_cons, List.length_nil] at this ⊢; omega
  split
  · have := nb_len [e.t, e.n] (all_sub n1 (by simp)); simp only [List.length_cons, List.length_nil] at this; omega
  split
  · have := nb_len [e.id] (all_sub n1 (by simp)); simp only [List.length_cons, List.length_nil] at this; omega
  split
  · have := dg_le (cnt_lt (n := (e.body.length : Int)) (by omega) (by omega)); rw [List.length_append]; omega
  · simp
theorem put_right {e : Ev} (hr : rightR e = true) (h : Ev64 e) : putR e = code e := by
  unfold putR
  rw [if_pos hr, if_neg (by have := right_code hr h; omega)]
theorem put_wrong {e : Ev} (hr : rightR e = false) : putR e = [] := by
  unfold putR
  rw [if_neg (by rw [hr]; decide)]
theorem Rd.end_nil {s : RS} (h : Rd s []) : s.end_ = 0 := by
  have := h.d
  rw [List.drop_eq_nil_iff] at this
  unfold RS.end_
  rw [if_neg (by omega)]
  exact h.e
theorem Rd.end_more {s : RS} {m : Nat} {r : List Nat} (h : Rd s (m :: r)) : s.end_ = 12 := by
  have h1 : s.n < s.bs.length := by
    refine Classical.byContradiction fun hn => ?_
    have h2 := h.d
    rw [List.drop_eq_nil_of_le (by omega)] at h2
    cases h2
  unfold RS.end_
  rw [if_pos ⟨h.e, h1⟩]
/-- There and back. -/
theorem get_put {e : Ev} (hr : rightR e = true) (h : Ev64 e) : getR e.kind (code e) = (e, 0) := by
  obtain ⟨h1, h2⟩ := Rd.ev (s := ⟨code e, 0, 0⟩) (r := []) hr h ⟨rfl, by simp⟩
  unfold getR
  rw [if_neg (by rw [h2.end_nil]; simp), h1, if_pos hr]
/-- One byte more. -/
theorem get_more {e : Ev} (hr : rightR e = true) (h : Ev64 e) (m : Nat) : getR e.kind (code e ++ [m]) = (ofKind 0, 12) := by
  obtain ⟨h1, h2⟩ := Rd.ev (s := ⟨code e ++ [m], 0, 0⟩) (r := [m]) hr h ⟨rfl, by simp⟩
  unfold getR
  rw [h2.end_more, if_pos (by decide)]
theorem code_pos {e : Ev} (hr : rightR e = true) : 0 < (code e).length := by
  have hk := right_kind hr
  have hp : ∀ (x : Int) (l : List Int), 0 < (nb (x :: l)).length := fun x l => by rw [nb_cons, List.length_append]; have := dg_pos (cnt x); omega
  unfold code
  split
  · exact hp _ _
  split
  · exact hp _ _
  split
  · exact hp _ _
  split
  · exact hp _ _
  split
  · exact hp _ _
  split
  · exact hp _ _
  split
  · rw [List.length_append]; have := dg_pos (cnt (e.body.length : Int)); omega
  · omega
end Evn
end Go.Proofs.Ytnpakjdgcmbcnaa

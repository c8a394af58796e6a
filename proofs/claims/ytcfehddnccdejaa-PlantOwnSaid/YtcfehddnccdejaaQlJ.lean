/- What a step of a plant leaves, as plain mathematics. -/
import Derived.Test.YtcfehddnccdejaaQlF
namespace Go.Proofs.Ytcfehddnccdejaa
set_option linter.unusedSimpArgs false
set_option linter.unusedVariables false
open Evn Plt

structure CQ (c : Cf) : Prop where
  c1 : 1 ≤ c.cap
  c2 : c.cap ≤ 1000000
  d1 : 0 ≤ c.delay
  d2 : c.delay ≤ 8
  s1 : 0 ≤ c.slack
  s2 : c.slack ≤ 1000000000
theorem CQ.of {c : Cf} (h : confR c = true) : CQ c := by
  unfold confR at h
  have := of_decide_eq_true h
  exact ⟨by omega, by omega, by omega, by omega, by omega, by omega⟩
theorem div_pos {t z : Int} (h1 : 0 ≤ t) (h2 : t ≤ 1000000000) (h3 : 0 ≤ z) (h4 : z ≤ 1000000000) : Fx.div t z = min (Fx.divS t z) 1000000000 ∧ 0 ≤ Fx.divS t z := by
  have hn := Fx.divS_nonneg h1 h3
  refine ⟨?_, hn⟩
  have e : Fx.div t z = Fx.sat (Fx.divS t z) := by
    unfold Fx.div Fx.by2 Fx.bys
    rw [Fx.sat_id (n := t) (by omega) h2, Fx.sat_id (n := z) (by omega) h4, if_neg (by omega)]
    show (if z < 0 then _ else _) = _
    rw [if_neg (by omega)]
  rw [e]
  unfold Fx.sat
  rw [if_neg (by omega)]
  split <;> omega
theorem can_pos {c : Cf} (hc : CQ c) {r : Int} (h1 : 0 ≤ r) (h2 : r ≤ 1000) : 0 ≤ r * c.cap ∧ r * c.cap ≤ 1000000000 := by
  have a : 0 ≤ r * c.cap := Int.mul_nonneg h1 (by have := hc.c1; omega)
  have b : r * c.cap ≤ 1000 * 1000000 := Int.mul_le_mul h2 hc.c2 (by have := hc.c1; omega) (by omega)
  exact ⟨a, by omega⟩
/-- What is sized. -/
theorem sized_now {c : Cf} (hc : CQ c) {p : Pt} (hn : TOk p) (want : Int) : all (sized c.delay (first p) (rep want)) = rep want ∧ NOk (sized c.delay (first p) (rep want)) := by
  have := sized_ok (first_n hn) ⟨hc.d1, hc.d2⟩ (rep_le want)
  rw [sized_first] at this
  exact this
theorem step_all {c : Cf} (hc : CQ c) {p : Pt} (hn : TOk p) (want demand : Int) : all (Plt.step c p want demand) = rep want := by
  rw [← (sized_now hc hn want).1]
  unfold Plt.step all
  simp only [sm_trim]
theorem todo_is {p : Pt} (hn : TOk p) (demand : Int) : todo p demand = min (p.wait + min (max demand 0) 1000000) 1000000000 ∧ 0 ≤ todo p demand ∧ todo p demand ≤ 1000000000 := by
  have h1 := hn.w1
  have h2 := hn.w2
  have e : todo p demand = min (p.wait + min (max demand 0) 1000000) 1000000000 := by
    unfold todo Fx.add
    rw [Fx.sat_id (n := p.wait) (by omega) h2, Fx.sat_id (n := min (max demand 0) 1000000) (by omega) (by omega)]
    unfold Fx.sat
    rw [if_neg (by omega)]
    split <;> omega
  exact ⟨e, by omega, by omega⟩
theorem step_ok {c : Cf} (hc : CQ c) {p : Pt} (hn : TOk p) (want demand : Int) : okT (Plt.step c p want demand) = true := by
  have hs := (sized_now hc hn want).2
  have ha := step_all hc hn want demand
  have ht := (todo_is hn demand).2
  have hk := can_pos hc hs.r1 hs.r2
  have hr := rep_le want
  have hd := div_pos ht.1 ht.2 (z := can c (sized c.delay (first p) (rep want)).ready) (by unfold can; omega) (by unfold can; omega)
  refine okT_of (p := Plt.step c p want demand) ⟨hs.r1, hs.r2, Nat.le_trans (trim_len _) hs.len, ?_, ?_, ?_, ?_, fun x hx => hs.nums x (trim_mem x hx), by omega⟩
  · show 0 ≤ max _ _; omega
  · show max (todo p demand - can c _) 0 ≤ _; unfold can; omega
  · show 0 ≤ Fx.div _ _; omega
  · show Fx.div _ _ ≤ _; omega
/-- What is done, what waits, and how much of what can be done is asked. -/
theorem work_facts {c : Cf} (hc : CQ c) {p : Pt} (hn : TOk p) {want demand r t u : Int} {l : List Int} (h : Plt.step c p want demand = ⟨r, l, t, u⟩) :
    ∃ z T, r * c.cap = z ∧ min (p.wait + min (max demand 0) 1000000) 1000000000 = T ∧ (0 ≤ z ∧ z ≤ 1000000000) ∧ (0 ≤ T ∧ T ≤ 1000000000) ∧ t = max (T - z) 0 ∧ (z ≠ 0 → 0 ≤ Int.tdiv (1000 * T) z ∧ Int.tdiv (1000 * T) z ≤ 1000000000000 ∧ min (Int.tdiv (1000 * T) z) 1000000000 = u) := by
  have hs := (sized_now hc hn want).2
  obtain ⟨ht, h1, h2⟩ := todo_is hn demand
  have hr : (sized c.delay (first p) (rep want)).ready = r := congrArg Pt.ready h
  have hw : max (todo p demand - can c (sized c.delay (first p) (rep want)).ready) 0 = t := congrArg Pt.wait h
  have hu : Fx.div (todo p demand) (can c (sized c.delay (first p) (rep want)).ready) = u := congrArg Pt.util h
  have hk := can_pos hc hs.r1 hs.r2
  rw [hr] at hw hu hk
  have hcan : can c r = r * c.cap := by unfold can; omega
  rw [hcan] at hw hu
  have hd := div_pos h1 h2 hk.1 hk.2
  refine ⟨r * c.cap, todo p demand, rfl, ht.symm, hk, ⟨h1, h2⟩, hw.symm, fun hz => ?_⟩
  have ht9 : Int.tdiv (1000 * todo p demand) (r * c.cap) = 1000 * todo p demand / (r * c.cap) := Int.tdiv_eq_ediv_of_nonneg (by omega)
  refine ⟨by rw [ht9]; exact Int.ediv_nonneg (by omega) hk.1, by rw [ht9]; have := Int.ediv_le_self (a := 1000 * todo p demand) (r * c.cap) (by omega); omega, ?_⟩
  rw [← hu, hd.1]
  congr 1
  unfold Fx.divS
  rw [if_neg hz, Int.tdiv_eq_ediv_of_nonneg (by omega), Int.mul_comm]
theorem trim_rep (l : List Int) : ∀ n : Nat, trim (l ++ List.replicate n 0) = trim l
  | 0 => by simp
  | n + 1 => by rw [List.replicate_succ', ← List.append_assoc, trim_snoc_zero, trim_rep l n]
theorem trim_pad (l : List Int) (d : Nat) : trim (pad l d) = trim l := trim_rep l _
theorem put_none {l : List Int} {d : Nat} (hd : 0 < d) : put l d 0 = pad l d := by
  unfold put
  have hl : d - 1 < (pad l d).length := by rw [pad_len]; omega
  apply List.ext_getElem (by simp)
  intro i h1 h2
  rw [List.getElem_set]
  split
  · rename_i e
    subst e
    rw [List.getD_eq_getElem?_getD, List.getElem?_eq_getElem hl]
    simp
  · rfl
/-- As many are wanted as there are. -/
theorem sized_same {d : Int} (hd : 0 ≤ d) (p : Pt) : (sized d p (all p)).ready = p.ready ∧ trim (sized d p (all p)).start = trim p.start := by
  unfold sized
  rw [if_pos (by omega), show all p - all p = 0 by omega]
  split
  · exact ⟨by simp, rfl⟩
  · refine ⟨rfl, ?_⟩
    simp only
    rw [put_none (by omega), trim_pad]
theorem step_same {c : Cf} (hc : CQ c) {p : Pt} (want demand : Int) (h : rep want = all p) : (Plt.step c p want demand).ready = (first p).ready ∧ (Plt.step c p want demand).start = trim (first p).start := by
  have := sized_same hc.d1 (first p)
  rw [all_first] at this
  unfold Plt.step
  simp only [h]
  exact this
/-- So many that begin, so many steps behind. -/
def stl (D : Nat) (M : Int) (k : Nat) : List Int := if k = 0 ∨ M = 0 then [] else List.replicate (D - k) 0 ++ [M]
structure DS (D : Nat) (H M : Int) (k : Nat) (p : Pt) : Prop where
  ok : okT p = true
  lo : k ≤ D → p.ready = H ∧ p.start = stl D M k
  hi : D < k → p.ready = H + M ∧ p.start = []
theorem DS.zero {D : Nat} {H M : Int} (h1 : 0 ≤ H) (h2 : H ≤ 255) : DS D H M 0 ⟨H, [], 0, 0⟩ :=
  ⟨okT_of ⟨h1, by simp only; omega, by simp, by simp, by simp, by simp, by simp, by simp, by unfold all; simp only [sm]; omega⟩, fun _ => ⟨rfl, by simp [stl]⟩, fun h => absurd h (by omega)⟩
theorem sm_stl {D k : Nat} {M : Int} (hk : k ≠ 0) : sm (stl D M k) = M := by
  unfold stl
  split
  · rename_i h
    rcases h with h | h
    · exact absurd h hk
    · rw [h]; rfl
  · rw [sm_append, sm_rep]; simp [sm]
theorem DS.next {c : Cf} (hc : CQ c) {D : Nat} (hD : c.delay = (D : Int)) {H M : Int} (h1 : 0 ≤ H) (h2 : H ≤ 255) (m1 : 0 ≤ M) (m2 : M ≤ 255) {k : Nat} (hk : k ≤ D) {p : Pt} (h : DS D H M k p) (demand : Int) :
    DS D H M (k + 1) (Plt.step c p (H + M) demand) ∧ all (Plt.step c p (H + M) demand) = H + M := by
  have hr : rep (H + M) = H + M := by unfold rep; omega
  have hok := step_ok hc (TOk.of h.ok) (H + M) demand
  have hal := step_all hc (TOk.of h.ok) (H + M) demand
  rw [hr] at hal
  refine ⟨⟨hok, ?_, ?_⟩, hal⟩
  all_goals obtain ⟨e1, e2⟩ := h.lo hk
  all_goals intro hk1
  · -- not there yet
    by_cases hM : M = 0
    · have ha : all p = H + M := by unfold all; rw [e1, e2, hM]; simp [stl, sm]
      have := step_same hc (H + M) demand (hr.trans ha.symm)
      have hf : first p = p := by unfold first; rw [e2]; simp [stl, hM]
      rw [hf, e1, e2] at this
      refine ⟨this.1, this.2.trans (by simp [stl, hM, trim])⟩
    · by_cases hk0 : k = 0
      · subst hk0
        have e3 : p.start = [] := by rw [e2]; simp [stl]
        have hf : first p = p := by unfold first; rw [e3]
        have ha : all p = H := by unfold all; rw [e1, e3]; simp [sm]
        unfold Plt.step
        rw [hr, hf]
        unfold sized
        rw [ha, if_pos (by omega), if_neg (by omega), show H + M - H = M by omega, e3, e1]
        refine ⟨rfl, ?_⟩
        have ep : put [] c.delay.toNat M = List.replicate (D - 1) 0 ++ [M] := by
          rw [show c.delay.toNat = D by omega]
          obtain ⟨j, rfl⟩ : ∃ j, D = j + 1 := ⟨D - 1, by omega⟩
          unfold put pad
          simp only [List.nil_append, List.length_nil, Nat.sub_zero, Nat.add_sub_cancel, List.replicate_succ']
          rw [List.getD_eq_getElem?_getD]
          simp
        show trim (put [] c.delay.toNat M) = _
        rw [ep, trim_snoc hM]
        simp [stl, hM]
      · have ha : all p = H + M := by unfold all; rw [e1, e2, sm_stl hk0]
        have := step_same hc (H + M) demand (hr.trans ha.symm)
        obtain ⟨j, hj⟩ : ∃ j, D - k = j + 1 := ⟨D - k - 1, by omega⟩
        have e3 : p.start = 0 :: (List.replicate j 0 ++ [M]) := by rw [e2]; unfold stl; rw [if_neg (by omega), hj, List.replicate_succ]; rfl
        have hf : (first p).ready = H ∧ (first p).start = List.replicate j 0 ++ [M] := by unfold first; rw [e3]; exact ⟨by simp only; omega, rfl⟩
        rw [hf.1, hf.2, trim_snoc hM] at this
        refine ⟨this.1, this.2.trans ?_⟩
        unfold stl
        rw [if_neg (by omega), show D - (k + 1) = j by omega]
  · -- ready
    have hkD : k = D := by omega
    subst hkD
    by_cases hk0 : k = 0
    · subst hk0
      have e3 : p.start = [] := by rw [e2]; simp [stl]
      have hf : first p = p := by unfold first; rw [e3]
      have ha : all p = H := by unfold all; rw [e1, e3]; simp [sm]
      unfold Plt.step
      rw [hr, hf]
      unfold sized
      rw [ha, if_pos (by omega), if_pos (by omega), e3, e1]
      exact ⟨by simp only; omega, rfl⟩
    · have ha : all p = H + M := by unfold all; rw [e1, e2, sm_stl hk0]
      have := step_same hc (H + M) demand (hr.trans ha.symm)
      by_cases hM : M = 0
      · have e3 : p.start = [] := by rw [e2]; simp [stl, hM]
        have hf : first p = p := by unfold first; rw [e3]
        rw [hf, e1, e3] at this
        exact ⟨by omega, this.2⟩
      · have e3 : p.start = [M] := by rw [e2]; unfold stl; rw [if_neg (by omega), Nat.sub_self]; rfl
        have hf : (first p).ready = H + M ∧ (first p).start = [] := by unfold first; rw [e3]; exact ⟨by simp only; omega, rfl⟩
        rw [hf.1, hf.2] at this
        exact ⟨this.1, this.2⟩
/-- Fewer: those that go are those that would be ready last. -/
def Fewer (b s : List Int) : Prop := b.length ≤ s.length ∧ ∀ i, i < b.length → b.getD i 0 ≤ s.getD i 0 ∧ (b.getD i 0 < s.getD i 0 → i + 1 = b.length)
theorem Fewer.nil_ (s : List Int) : Fewer [] s := ⟨Nat.zero_le _, fun i hi => absurd hi (by simp)⟩
theorem Fewer.cons_ {b s : List Int} (h : Fewer b s) (x : Int) : Fewer (x :: b) (x :: s) := by
  refine ⟨by have := h.1; simp only [List.length_cons]; omega, fun i hi => ?_⟩
  match i with
  | 0 => exact ⟨Int.le_refl _, fun h => absurd h (by simp)⟩
  | i + 1 =>
    simp only [List.length_cons] at hi
    have := h.2 i (by omega)
    simp only [List.getD_cons_succ, List.length_cons]
    exact ⟨this.1, fun h9 => by have := this.2 h9; omega⟩
theorem back_rel {l : List Int} {n : Int} (h : ∀ x ∈ l, 0 ≤ x) (hn : 0 ≤ n) : (0 < (back l n).2 → trim (back l n).1 = []) ∧ Fewer (trim (back l n).1) (trim l) := by
  induction l with
  | nil => exact ⟨fun _ => rfl, Fewer.nil_ _⟩
  | cons x l ih =>
    have hx := h x (by simp)
    have hl : ∀ y ∈ l, 0 ≤ y := fun y hy => h y (by simp [hy])
    obtain ⟨ia, ib⟩ := ih hl
    have h2 := (back_two hl hn).1
    simp only [back]
    obtain ⟨B, r, hBr⟩ : ∃ B r, back l n = (B, r) := ⟨_, _, rfl⟩
    rw [hBr] at ia ib h2 ⊢
    simp only at ia ib h2 ⊢
    refine ⟨fun hp => ?_, ?_⟩
    · have h0 : 0 < r := by omega
      simp only [trim, ia h0]
      rw [if_pos ⟨trivial, by omega⟩]
    · by_cases h0 : 0 < r
      · have e := ia h0
        simp only [trim, e]
        by_cases hy : x - min x r = 0
        · rw [if_pos ⟨trivial, hy⟩]; exact Fewer.nil_ _
        · rw [if_neg (fun h => hy h.2), if_neg (fun h => hy (by omega))]
          refine ⟨by simp, fun i hi => ?_⟩
          have : i = 0 := by simp at hi; omega
          subst this
          exact ⟨by simp only [List.getD_cons_zero]; omega, fun _ => rfl⟩
      · have : r = 0 := by omega
        subst this
        have hm : x - min x 0 = x := by omega
        rw [hm]
        simp only [trim]
        by_cases hy : trim B = [] ∧ x = 0
        · rw [if_pos hy]; exact Fewer.nil_ _
        · rw [if_neg hy]
          have hs : ¬ (trim l = [] ∧ x = 0) := fun h9 => by
            have h8 := ib.1
            rw [h9.1] at h8
            exact hy ⟨List.eq_nil_of_length_eq_zero (by simpa using h8), h9.2⟩
          rw [if_neg hs]
          exact ib.cons_ x
theorem back_zero {l : List Int} (h : ∀ x ∈ l, 0 ≤ x) : back l 0 = (l, 0) := by
  induction l with
  | nil => rfl
  | cons x l ih =>
    have hx := h x (by simp)
    simp only [back, ih (fun y hy => h y (by simp [hy]))]
    rw [show min x 0 = 0 by omega]
    simp
theorem less_facts {c : Cf} (hc : CQ c) {p : Pt} (hn : TOk p) {f : Int} (hf : 0 ≤ f) {r1 t1 u1 r2 t2 u2 : Int} {l1 l2 : List Int} (h1 : Plt.step c p (all p) 0 = ⟨r1, l1, t1, u1⟩) (h2 : Plt.step c p (max (all p - f) 0) 0 = ⟨r2, l2, t2, u2⟩) :
    r2 ≤ r1 ∧ (r2 < r1 → l2 = []) ∧ Fewer l2 l1 ∧ all ⟨r1, l1, t1, u1⟩ = all p ∧ all ⟨r2, l2, t2, u2⟩ = max (all p - f) 0 := by
  have ha1 : 0 ≤ all p := by unfold all; have := sm_nn (fun y hy => (hn.nums y hy).1); have := hn.r1; omega
  have ha2 := hn.all_
  have hr : rep (all p) = all p := by unfold rep; omega
  have hr2 : rep (max (all p - f) 0) = max (all p - f) 0 := by unfold rep; omega
  have hs1 := step_all hc hn (all p) 0
  have hs2 := step_all hc hn (max (all p - f) 0) 0
  rw [h1, hr] at hs1
  rw [h2, hr2] at hs2
  have hss := step_same hc (p := p) (all p) 0 hr
  rw [h1] at hss
  simp only at hss
  have hl : ∀ x ∈ (first p).start, 0 ≤ x := fun x hx => ((first_n hn).nums x hx).1
  have hb := back_rel hl (n := all p - max (all p - f) 0) (by omega)
  have h20 := (back_two hl (n := all p - max (all p - f) 0) (by omega)).1
  have hlt : r2 = (first p).ready - (back (first p).start (all p - max (all p - f) 0)).2 ∧ l2 = trim (back (first p).start (all p - max (all p - f) 0)).1 := by
    by_cases he : max (all p - f) 0 = all p
    · have hss2 := step_same hc (p := p) (max (all p - f) 0) 0 (hr2.trans he)
      rw [h2] at hss2
      simp only at hss2
      rw [he, show all p - all p = 0 by omega, back_zero hl]
      exact ⟨by simp only; omega, hss2.2⟩
    · unfold Plt.step at h2
      rw [hr2] at h2
      unfold sized at h2
      rw [all_first, if_neg (by omega)] at h2
      exact ⟨(congrArg Pt.ready h2).symm, (congrArg Pt.start h2).symm⟩
  refine ⟨by omega, fun h => ?_, ?_, hs1, hs2⟩
  · rw [hlt.2]; exact hb.1 (by omega)
  · rw [hlt.2, hss.2]; exact hb.2
end Go.Proofs.Ytcfehddnccdejaa

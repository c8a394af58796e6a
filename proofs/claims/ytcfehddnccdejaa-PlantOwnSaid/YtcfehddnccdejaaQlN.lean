/- The program's leave: so many go, from behind. -/
import Derived.Test.YtcfehddnccdejaaQlM
import Derived.Test.YtcfehddnccdejaaBut
import Derived.Lib.MinMax
namespace Go.Proofs.Ytcfehddnccdejaa
set_option linter.unusedSimpArgs false
set_option linter.unusedVariables false
open Go.RowKit Go.Shelf
open Evn Plt
attribute [local go_sem] Oper.semAt_some

/-- Behind k places: the row, how many are still to go, the plant. -/
def lvL (p : Pt) (z : Int) (k : Nat) : List Int := dn p.start (p.start.length - k) z
def lvm (p : Pt) (z : Int) (k : Nat) : Int := if p.start.length < k then 0 else (back (p.start.drop (p.start.length - k)) z).2
def lvQ (p : Pt) (z : Int) (k : Nat) : Pt := ⟨if p.start.length < k then p.ready - (back p.start z).2 else p.ready, lvL p z k, p.wait, p.util⟩
theorem lvL_len (p : Pt) (z : Int) (k : Nat) : (lvL p z k).length = p.start.length := dn_len _ _ _
theorem lvL_zero (p : Pt) (z : Int) : lvL p z 0 = p.start := by unfold lvL dn; rw [Nat.sub_zero, List.drop_length, List.take_length]; simp [back]
theorem lvm_zero (p : Pt) (z : Int) : lvm p z 0 = z := by unfold lvm; rw [if_neg (by omega), Nat.sub_zero, List.drop_length]; rfl
theorem lvQ_zero (p : Pt) (z : Int) : lvQ p z 0 = p := by unfold lvQ; rw [if_neg (by omega), lvL_zero]
theorem dn_zero (l : List Int) (z : Int) : dn l 0 z = (back l z).1 := by unfold dn; rw [List.take_zero, List.nil_append, List.drop_zero]
theorem back_nil_rest : ∀ {l : List Int} {z : Int} (j : Nat), (∀ x ∈ l, 0 ≤ x) → (back (l.drop j) z).2 = 0 → dn l j z = (back l z).1 ∧ (back l z).2 = 0
  | l, z, 0, _, h => by rw [List.drop_zero] at h; exact ⟨dn_zero l z, h⟩
  | [], z, j + 1, _, h => by simp [dn, back] at h ⊢; exact h
  | x :: l, z, j + 1, hx, h => by
    rw [List.drop_succ_cons] at h
    obtain ⟨h1, h2⟩ := back_nil_rest j (fun y hy => hx y (by simp [hy])) h
    have h0 := hx x (by simp)
    rw [back_cons, h2]
    unfold dn at h1 ⊢
    rw [List.take_succ_cons, List.drop_succ_cons, List.cons_append, h1]
    have : min x 0 = 0 := by omega
    rw [this]
    simp
/-- No more are to go: all that is to be done is done. -/
theorem lv_stop {p : Pt} {z : Int} {k : Nat} (hn : NOk p) (hk : k ≤ p.start.length + 1) (h : lvm p z k = 0) : lvL p z k = (back p.start z).1 ∧ (lvQ p z k).ready = p.ready - (back p.start z).2 := by
  unfold lvm at h
  unfold lvL lvQ
  by_cases hl : p.start.length < k
  · have e : p.start.length - k = 0 := by omega
    rw [e]
    exact ⟨dn_zero _ _, by simp only; rw [if_pos hl]⟩
  · rw [if_neg hl] at h
    obtain ⟨h1, h2⟩ := back_nil_rest (p.start.length - k) (fun y hy => (hn.nums y hy).1) h
    exact ⟨h1, by simp only; rw [if_neg hl, h2]; omega⟩
theorem lv_step {X : World} {g base kc : Nat} {p : Pt} {z : Int} {a : Option Addr} {k : Nat} (hn : NOk p) (hz : 0 ≤ z ∧ z ≤ all p) (ho : OwnV X base 3 (.slice a p.start.length kc) (i64V (lvL p z k))) (hp : PtAt X g (lvQ p z k) a kc)
    (hne : ∀ b o, a = some ⟨b, o, none⟩ → b ≠ g) (hk : k ≤ p.start.length) :
    ∃ b o x q, plc a g p.start.length k = ⟨b, o, none⟩ ∧ X.cell? ⟨b, o, none⟩ = some (.int .i64 x) ∧ X.frozen? ⟨b, o, none⟩ = false ∧ (0 ≤ x ∧ x ≤ 1000) ∧ min (lvm p z k) x = q ∧ (0 ≤ lvm p z k ∧ lvm p z k ≤ 9000) ∧ lvm p z (k + 1) = lvm p z k - q ∧
      (b = g ∨ (Value.slice a p.start.length kc).ownBlock = some b) ∧ OwnV (X.setCell ⟨b, o, none⟩ (.int .i64 (x - q))) base 3 (.slice a p.start.length kc) (i64V (lvL p z (k + 1))) ∧ PtAt (X.setCell ⟨b, o, none⟩ (.int .i64 (x - q))) g (lvQ p z (k + 1)) a kc := by
  have hall : all p ≤ 9000 := by have := sm_le hn.nums; have := hn.r2; have := hn.len; unfold all; omega
  have hm2 := back_two (l := p.start.drop (p.start.length - k)) (n := z) (fun y hy => (hn.nums y (List.mem_of_mem_drop hy)).1) hz.1
  have hm : lvm p z k = (back (p.start.drop (p.start.length - k)) z).2 := by unfold lvm; rw [if_neg (by omega)]
  by_cases hl : k < p.start.length
  · obtain ⟨j, hj⟩ : ∃ j, j = p.start.length - 1 - k := ⟨_, rfl⟩
    have hjk : p.start.length - k = j + 1 := by omega
    have hj1 : p.start.length - (k + 1) = j := by omega
    have hjl : j < p.start.length := by omega
    obtain ⟨a1, c1, e, S, _, G⟩ := own_srw ho
    rw [lvL_len] at e G
    obtain ⟨gb, hgb⟩ := G (by omega)
    injection e with e1 e2 e3
    subst e1 hgb
    have hL : lvL p z k = dn p.start (j + 1) z := by unfold lvL; rw [hjk]
    have hL1 : lvL p z (k + 1) = dn p.start j z := by unfold lvL; rw [hj1]
    have hcell := ho.cell (k := j) (u := .int .i64 ((lvL p z k).getD j 0)) (by rw [List.getElem?_map, List.getElem?_eq_getElem (by rw [lvL_len]; exact hjl), List.getD_eq_getElem?_getD, List.getElem?_eq_getElem (by rw [lvL_len]; exact hjl)]; rfl)
    rw [hL, dn_at hjl] at hcell
    have hset := ho.set_ j (.int .i64 (p.start.getD j 0 - min (p.start.getD j 0) (back (p.start.drop (j + 1)) z).2))
    have e9 : (i64V (lvL p z k)).set j (.int .i64 (p.start.getD j 0 - min (p.start.getD j 0) (back (p.start.drop (j + 1)) z).2)) = i64V (lvL p z (k + 1)) := by
      rw [hL, hL1, ← dn_set hjl z]
      exact (List.map_set).symm
    rw [e9] at hset
    rw [hjk] at hm hm2
    have hQ : lvQ p z (k + 1) = ⟨p.ready, lvL p z (k + 1), p.wait, p.util⟩ := by unfold lvQ; rw [if_neg (by omega)]
    have hQ0 : lvQ p z k = ⟨p.ready, lvL p z k, p.wait, p.util⟩ := by unfold lvQ; rw [if_neg (by omega)]
    rw [← hm] at hset
    refine ⟨gb, j, p.start.getD j 0, min (p.start.getD j 0) (lvm p z k), ?_, hcell.1, hcell.2, getD_ok hn.nums hjl, Int.min_comm _ _, by omega, ?_, .inr rfl, hset, ?_⟩
    · unfold plc; rw [if_pos hl]; simp only; rw [hj, Nat.zero_add]
    · have : lvm p z (k + 1) = (back (p.start.drop j) z).2 := by unfold lvm; rw [if_neg (by omega), hj1]
      rw [this, drop_cons hjl, back_cons, hm]
    · have h1 : (X.setCell ⟨gb, j, none⟩ (.int .i64 (p.start.getD j 0 - min (p.start.getD j 0) (lvm p z k)))).heap[g]? = X.heap[g]? := Below.heap_setCell X ⟨gb, j, none⟩ _ g (fun e => hne gb 0 rfl e.symm)
      rw [hQ]
      rw [hQ0] at hp
      unfold PtAt at hp ⊢
      rw [h1, hp]
      simp only [lvL_len]
  · have hkl : k = p.start.length := by omega
    have h0 : p.start.length - k = 0 := by omega
    have h1 : p.start.length - (k + 1) = 0 := by omega
    rw [h0, List.drop_zero] at hm hm2
    have hbl := back_left (l := p.start) (n := z) (fun x hx => (hn.nums x hx).1) hz.1
    have hr1 := hn.r1
    have hr2 := hn.r2
    have hsm := hz.2
    unfold all at hsm
    have hL : lvL p z (k + 1) = lvL p z k := by unfold lvL; rw [h0, h1]
    have hQ : lvQ p z (k + 1) = ⟨p.ready - lvm p z k, lvL p z k, p.wait, p.util⟩ := by unfold lvQ; rw [if_pos (by omega), hL, hm]
    have hQ0 : lvQ p z k = ⟨p.ready, lvL p z k, p.wait, p.util⟩ := by unfold lvQ; rw [if_neg (by omega)]
    have hq : min (lvm p z k) p.ready = lvm p z k := by rw [hm]; omega
    rw [hQ0] at hp
    refine ⟨g, 0, p.ready, lvm p z k, ?_, (PtAt.c hp).1, frozen_of_row X g 0 _ _ hp, ⟨hr1, hr2⟩, hq, by omega, ?_, .inl rfl, ?_, ?_⟩
    · unfold plc; rw [if_neg hl]
    · have : lvm p z (k + 1) = 0 := by unfold lvm; rw [if_pos (by omega)]
      rw [this]; omega
    · rw [hL]
      refine World.ownsRow.kept (row := some g) ho (grownBy_setCell X ⟨g, 0, none⟩ _) ?_
      rcases ho.2 with ⟨e, _⟩ | ⟨gb, cap, cur, e, _⟩
      · injection e with e1
        subst e1
        exact .inl rfl
      · injection e with e1
        subst e1
        refine .inr (fun e => ?_)
        injection e with e
        exact hne gb 0 rfl e
    · rw [hQ]
      have := heap_setCell_same X g 0 _ 26 (.int .i64 (p.ready - lvm p z k)) hp
      exact this
end Go.Proofs.Ytcfehddnccdejaa

/- Contracts of the program's sum: table. -/
import Derived.Test.YtkklofchgmbdnaaSumA
namespace Go.Proofs.Ytkklofchgmbdnaa
open Go.RowKit
open Crc

def tabAt (k : Nat) : List Value := (List.range 256).map fun i => .int .u32 (((if i < k then dn i else 0 : Nat)) : Int)
def tabZero : Array Value := (tabAt 0).toArray
theorem tabAt_len (k : Nat) : (tabAt k).length = 256 := by simp [tabAt]
theorem tabAt_get (k i : Nat) (h : i < 256) : (tabAt k)[i]? = some (.int .u32 (((if i < k then dn i else 0 : Nat)) : Int)) := by simp [tabAt, h]
theorem tabAt_set (k : Nat) (h : k < 256) : (tabAt k).set k (.int .u32 ((dn k : Nat) : Int)) = tabAt (k + 1) := by
  apply List.ext_getElem?
  intro i
  by_cases hi : i < 256
  · rw [List.getElem?_set, tabAt_get (k + 1) i hi, tabAt_get k i hi, tabAt_len]
    by_cases e : k = i
    · subst e; simp [h]
    · rw [if_neg e]
      by_cases hlt : i < k
      · rw [if_pos hlt, if_pos (by omega)]
      · rw [if_neg hlt, if_neg (by omega)]
  · rw [List.getElem?_eq_none (by rw [List.length_set, tabAt_len]; omega), List.getElem?_eq_none (by rw [tabAt_len]; omega)]
theorem tabAt_one (k : Nat) : ∀ v ∈ tabAt k, v.oneCell' = true := by
  intro v hv
  obtain ⟨i, _, rfl⟩ := List.mem_map.1 hv
  rfl

set_option maxRecDepth 100000 in
set_option maxHeartbeats 400000 in
theorem table_any (w : World) :
    Calls Try.prog 98 #[] w fun e w' => e = .returned (.agg (tabAt 256).toArray) ∧ Below w.heap.size w w' := by
  have hz : ∀ w, (zeroValue 115).run Try.prog w = .ok (.agg tabZero) w := fun w => by kernel_rfl
  go_enter Try.func98, Try.ntmps98
  go_wp2_with fail
  go_loopw [2, 3] (fun _ i wr => ∃ k : Nat, k ≤ 256 ∧ i = .int .i64 (k : Int) ∧ wr.heap[w.heap.size + 1]? = some (.cells (tabAt k).toArray 115 (0, 0)) ∧ wr.heap[w.heap.size]? = some (.cells tabZero 115 (0, 0)) ∧ Below w.heap.size w wr)
    (fun _ i _ => 256 - (intOf i).toNat)
  case atStart =>
    refine ⟨0, by omega, rfl, heap_alloc2_new _ _ _, heap_alloc2_old _ _ _, ?_⟩
    exact ((Below.refl _ _).alloc (Nat.le_refl _) _).alloc (by simp) _
  case round =>
    obtain ⟨k, hk, rfl, ht, hr, hb⟩ := hrel
    by_cases hlt : k < 256
    · have hcell : wr.cell? ⟨w.heap.size + 1, k, none⟩ = some (.int .u32 0) := by
        rw [cell_of_row wr _ k _ _ _ ht, List.getElem?_toArray, tabAt_get k k hlt, if_neg (by omega)]; rfl
      have hfr : wr.frozen? ⟨w.heap.size + 1, k, none⟩ = false := frozen_of_row wr _ k _ _ ht
      have Ht := Lib.hid ht
      have Hr := Lib.hid hr
      clear ht hr
      go_wp2_with fail
      refine (down_any k (by omega) _).mono ?_
      rintro e w' ⟨rfl, rfl⟩
      go_wp2
      refine ⟨⟨k + 1, by omega, by go_num, ?_, ?_, ?_⟩, by simp [intOf]; omega⟩
      · have h1 := heap_setCell_same wr (w.heap.size + 1) k _ _ (.int .u32 ((dn k : Nat) : Int)) Ht.out
        rw [List.setIfInBounds_toArray, tabAt_set k hlt] at h1
        exact h1
      · rw [heap_setCell_other _ _ _ _ (by simp)]
        exact Hr.out
      · exact hb.setCell (by simp) _
    · have hk' : k = 256 := by omega
      subst hk'
      have Ht := Lib.hid ht
      have Hr := Lib.hid hr
      clear ht hr
      go_wp2_with (first
        | (refine wpList_load_row (by rfl) 115 (.tmp 1) (by rfl) (w.heap.size + 1) (by rfl) 115 (tabAt 256).toArray (0, 0) _ Ht.out Try.underlying115 (by rfl) (by kernel_rfl) ?_)
        | (refine wpList_store_mid (by rfl) 115 (.tmp 0) (.tmp 12) (by rfl) w.heap.size 0 (tabAt 256).toArray (by rfl) (by rfl) (there_of_block Hr.out (by simp [tabZero, tabAt_len])) (by kernel_rfl) (all_oneCell_toArray (tabAt_one 256)) ?_))
      have hw := heap_setCells_whole (cs := tabAt 0) (tabAt 256) (by rw [tabAt_len, tabAt_len]) Hr.out
      refine bodyPost_ret (v := .agg (tabAt 256).toArray) ?_ (by rfl) ⟨rfl, below_setCells' _ (Nat.le_refl _) _ _ hb⟩
      exact results_cell_row (by rfl) _ _ w.heap.size _ (tabAt 256).toArray _ _ (by rfl) hw Try.underlying115 (by rfl) (by kernel_rfl)
end Go.Proofs.Ytkklofchgmbdnaa

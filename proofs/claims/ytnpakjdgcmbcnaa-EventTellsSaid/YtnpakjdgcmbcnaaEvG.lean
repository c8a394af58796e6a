/- Within bounds: rows of numbers; thousandths; the zero policy. -/
import Derived.Test.YtnpakjdgcmbcnaaEvT
import Derived.Test.YtnpakjdgcmbcnaaFxS
namespace Go.Proofs.Ytnpakjdgcmbcnaa
open Go.RowKit
open Wir Evn
attribute [local go_sem] Oper.semAt_some

/-- All within bounds. -/
def winR (least most : Int) (l : List Int) : Bool := l.all fun n => decide (least ≤ n ∧ n ≤ most)
/-- A slice of numbers at the head of block g. -/
def NRow (w : World) (g : Nat) (l : List Int) : Prop := ∀ i, i < l.length → w.cell? ⟨g, i, none⟩ = some (.int .i64 (l.getD i 0))
theorem NRow.new {w : World} {g : Nat} {l : List Int} {T : TypeId} {c : Array Value} (h : w.heap[g]? = some (.cells c T (0, 0))) (hc : c = (l.map fun n => Value.int .i64 n).toArray) : NRow w g l := fun i hi => by
  rw [cell_of_row w g i c T (0, 0) h, hc, List.getElem?_toArray, List.getElem?_map, List.getElem?_eq_getElem hi, List.getD_eq_getElem?_getD, List.getElem?_eq_getElem hi]
  rfl
theorem winR_no {least most : Int} {l : List Int} {k : Nat} (hk : k < l.length) (h : ¬ (least ≤ l.getD k 0 ∧ l.getD k 0 ≤ most)) : winR least most l = false := by
  rw [List.getD_eq_getElem?_getD, List.getElem?_eq_getElem hk] at h
  apply Bool.eq_false_iff.2
  intro ha
  have := List.all_eq_true.1 ha _ (List.getElem_mem hk)
  exact h (by simpa using this)
theorem winR_yes {least most : Int} {l : List Int} (h : ∀ k, k < l.length → least ≤ l.getD k 0 ∧ l.getD k 0 ≤ most) : winR least most l = true := by
  refine List.all_eq_true.2 fun x hx => ?_
  obtain ⟨k, hk, rfl⟩ := List.mem_iff_getElem.1 hx
  have := h k hk
  rw [List.getD_eq_getElem?_getD, List.getElem?_eq_getElem hk] at this
  simpa using this
set_option linter.unusedSimpArgs false in
set_option maxRecDepth 100000 in
set_option maxHeartbeats 6400000 in
theorem within64_any {w : World} {g n : Nat} {l : List Int} (least most : Int) (hc : NRow w g l) (hn : l.length = n) (hnn : n ≤ 100) :
    Calls Try.prog 35 #[.int .i64 least, .int .i64 most, .slice (some ⟨g, 0, none⟩) n n] w fun e w' => e = .returned (.bool (winR least most l)) ∧ w' = w := by
  have HC := Lib.hid (And.intro hc hn)
  clear hc hn
  go_enter Try.func35, Try.ntmps35
  go_wp2_with fail
  go_loopw [11] (fun i wx => ∃ k : Nat, k ≤ n ∧ i = .int .i64 (k : Int) ∧ wx = w ∧ (∀ j, j < k → least ≤ l.getD j 0 ∧ l.getD j 0 ≤ most)) (fun i _ => n - (intOf i).toNat)
  case atStart => exact ⟨0, Nat.zero_le _, rfl, rfl, fun j hj => absurd hj (by omega)⟩
  case round =>
    obtain ⟨k, hk, rfl, hw, hall⟩ := hrel
    subst hw
    by_cases hlt : k < n
    · have hlt' : (k : Int) < (n : Int) := by omega
      have hk' : k < l.length := by have := HC.out.2; omega
      have c0 := HC.out.1 k hk'
      have HL := Lib.hid (And.intro hk' (And.intro hall hlt))
      generalize hx : l.getD k 0 = x at c0
      have HX := Lib.hid hx
      clear hx hall
      by_cases h1 : x < least
      · have d1 : decide (x < least) = true := by simpa using h1
        go_wp2
        go_ret
        exact ⟨ret_bool (winR_no HL.out.1 (by rw [HX.out]; omega)).symm, rfl⟩
      have d1 : decide (x < least) = false := by simpa using h1
      by_cases h2 : most < x
      · have d2 : decide (most < x) = true := by simpa using h2
        go_wp2
        go_ret
        exact ⟨ret_bool (winR_no HL.out.1 (by rw [HX.out]; omega)).symm, rfl⟩
      have d2 : decide (most < x) = false := by simpa using h2
      go_wp2
      go_roundw
      case rel =>
        refine ⟨k + 1, by have := HL.out.2.2; omega, by go_num, trivial, fun j hj => ?_⟩
        rcases Nat.lt_succ_iff_lt_or_eq.1 hj with h | h
        · exact HL.out.2.1 j h
        · subst h; rw [HX.out]; omega
      case measure => have := HL.out.2.2; simp [intOf]; omega
    · have hlt' : ¬ (k : Int) < (n : Int) := by omega
      have ek : k = n := by omega
      subst ek
      have HA := Lib.hid hall
      clear hall
      go_wp2
      go_ret
      exact ⟨ret_bool (winR_yes (by rw [HC.out.2]; exact HA.out)).symm, rfl⟩
/-- Of a slice that was just made. -/
theorem within64_new {w : World} {n : Nat} {l : List Int} {c : Array Value} {T : TypeId} (least most : Int) (hc : c = (l.map fun n => Value.int .i64 n).toArray) (hn : l.length = n) (hnn : n ≤ 100) :
    Calls Try.prog 35 #[.int .i64 least, .int .i64 most, .slice (some ⟨w.heap.size, 0, none⟩) n n] (w.alloc (.cells c T)) fun e w' => e = .returned (.bool (winR least most l)) ∧ Below w.heap.size w w' :=
  (within64_any least most (NRow.new (heap_alloc_new w (.cells c T)) hc) hn hnn).mono fun e w' ⟨h1, h2⟩ => ⟨h1, by rw [h2]; exact (Below.refl _ _).alloc (Nat.le_refl _) _⟩
set_option linter.unusedSimpArgs false in
set_option maxRecDepth 100000 in
set_option maxHeartbeats 6400000 in
theorem withinI_any {w : World} {g n : Nat} {l : List Int} (least most : Int) (hc : NRow w g l) (hn : l.length = n) (hnn : n ≤ 100) :
    Calls Try.prog 41 #[.int .i64 least, .int .i64 most, .slice (some ⟨g, 0, none⟩) n n] w fun e w' => e = .returned (.bool (winR least most l)) ∧ w' = w := by
  have HC := Lib.hid (And.intro hc hn)
  clear hc hn
  go_enter Try.func41, Try.ntmps41
  go_wp2_with fail
  go_loopw [11] (fun i wx => ∃ k : Nat, k ≤ n ∧ i = .int .i64 (k : Int) ∧ wx = w ∧ (∀ j, j < k → least ≤ l.getD j 0 ∧ l.getD j 0 ≤ most)) (fun i _ => n - (intOf i).toNat)
  case atStart => exact ⟨0, Nat.zero_le _, rfl, rfl, fun j hj => absurd hj (by omega)⟩
  case round =>
    obtain ⟨k, hk, rfl, hw, hall⟩ := hrel
    subst hw
    by_cases hlt : k < n
    · have hlt' : (k : Int) < (n : Int) := by omega
      have hk' : k < l.length := by have := HC.out.2; omega
      have c0 := HC.out.1 k hk'
      have HL := Lib.hid (And.intro hk' (And.intro hall hlt))
      generalize hx : l.getD k 0 = x at c0
      have HX := Lib.hid hx
      clear hx hall
      by_cases h1 : x < least
      · have d1 : decide (x < least) = true := by simpa using h1
        go_wp2
        go_ret
        exact ⟨ret_bool (winR_no HL.out.1 (by rw [HX.out]; omega)).symm, rfl⟩
      have d1 : decide (x < least) = false := by simpa using h1
      by_cases h2 : most < x
      · have d2 : decide (most < x) = true := by simpa using h2
        go_wp2
        go_ret
        exact ⟨ret_bool (winR_no HL.out.1 (by rw [HX.out]; omega)).symm, rfl⟩
      have d2 : decide (most < x) = false := by simpa using h2
      go_wp2
      go_roundw
      case rel =>
        refine ⟨k + 1, by have := HL.out.2.2; omega, by go_num, trivial, fun j hj => ?_⟩
        rcases Nat.lt_succ_iff_lt_or_eq.1 hj with h | h
        · exact HL.out.2.1 j h
        · subst h; rw [HX.out]; omega
      case measure => have := HL.out.2.2; simp [intOf]; omega
    · have hlt' : ¬ (k : Int) < (n : Int) := by omega
      have ek : k = n := by omega
      subst ek
      have HA := Lib.hid hall
      clear hall
      go_wp2
      go_ret
      exact ⟨ret_bool (winR_yes (by rw [HC.out.2]; exact HA.out)).symm, rfl⟩
/-- Of a slice that was just made. -/
theorem withinI_new {w : World} {n : Nat} {l : List Int} {c : Array Value} {T : TypeId} (least most : Int) (hc : c = (l.map fun n => Value.int .i64 n).toArray) (hn : l.length = n) (hnn : n ≤ 100) :
    Calls Try.prog 41 #[.int .i64 least, .int .i64 most, .slice (some ⟨w.heap.size, 0, none⟩) n n] (w.alloc (.cells c T)) fun e w' => e = .returned (.bool (winR least most l)) ∧ Below w.heap.size w w' :=
  (withinI_any least most (NRow.new (heap_alloc_new w (.cells c T)) hc) hn hnn).mono fun e w' ⟨h1, h2⟩ => ⟨h1, by rw [h2]; exact (Below.refl _ _).alloc (Nat.le_refl _) _⟩
set_option linter.unusedSimpArgs false in
set_option maxRecDepth 100000 in
set_option maxHeartbeats 6400000 in
theorem thou_any {w : World} {g n : Nat} {l : List Int} (hc : NRow w g l) (hn : l.length = n) (hnn : n ≤ 100) :
    Calls Try.prog 33 #[.slice (some ⟨g, 0, none⟩) n n] w fun e w' => e = .returned (.bool (winR (-1000000000) 1000000000 l)) ∧ w' = w := by
  have HC := Lib.hid (And.intro hc hn)
  clear hc hn
  go_enter Try.func33, Try.ntmps33
  go_wp2_with fail
  go_loopw [7] (fun i wx => ∃ k : Nat, k ≤ n ∧ i = .int .i64 (k : Int) ∧ wx = w ∧ (∀ j, j < k → -1000000000 ≤ l.getD j 0 ∧ l.getD j 0 ≤ 1000000000)) (fun i _ => n - (intOf i).toNat)
  case atStart => exact ⟨0, Nat.zero_le _, rfl, rfl, fun j hj => absurd hj (by omega)⟩
  case round =>
    obtain ⟨k, hk, rfl, hw, hall⟩ := hrel
    subst hw
    by_cases hlt : k < n
    · have hlt' : (k : Int) < (n : Int) := by omega
      have hk' : k < l.length := by have := HC.out.2; omega
      have c0 := HC.out.1 k hk'
      have HL := Lib.hid (And.intro hk' (And.intro hall hlt))
      generalize hx : l.getD k 0 = x at c0
      have HX := Lib.hid hx
      clear hx hall
      by_cases h1 : -1000000000 ≤ x ∧ x ≤ 1000000000
      · have hs : Fx.sat x = x := by unfold Fx.sat; rw [if_neg (by omega), if_neg (by omega)]
        have HS := Lib.hid hs
        have HH := Lib.hid h1
        clear hs h1
        go_wp2_with fail
        refine (sat_any x _).mono ?_
        rintro e w1 ⟨rfl, rfl⟩
        rw [HS.out]
        go_wp2
        go_roundw
        case rel =>
          refine ⟨k + 1, by have := HL.out.2.2; omega, by go_num, trivial, fun j hj => ?_⟩
          rcases Nat.lt_succ_iff_lt_or_eq.1 hj with h | h
          · exact HL.out.2.1 j h
          · subst h; rw [HX.out]; exact HH.out
        case measure => have := HL.out.2.2; simp [intOf]; omega
      · have hs : x ≠ Fx.sat x := by unfold Fx.sat; split <;> (try split) <;> omega
        generalize hy : Fx.sat x = y at hs
        have HY := Lib.hid hy
        have HH := Lib.hid h1
        have ne : (x == y) = false := by simpa using hs
        clear hs h1 hy
        go_wp2_with fail
        refine (sat_any x _).mono ?_
        rintro e w1 ⟨rfl, rfl⟩
        rw [HY.out]
        go_wp2
        go_ret
        exact ⟨ret_bool (winR_no HL.out.1 (by rw [HX.out]; exact HH.out)).symm, rfl⟩
    · have hlt' : ¬ (k : Int) < (n : Int) := by omega
      have ek : k = n := by omega
      subst ek
      have HA := Lib.hid hall
      clear hall
      go_wp2
      go_ret
      exact ⟨ret_bool (winR_yes (by rw [HC.out.2]; exact HA.out)).symm, rfl⟩
theorem thou_new {w : World} {n : Nat} {l : List Int} {c : Array Value} {T : TypeId} (hc : c = (l.map fun n => Value.int .i64 n).toArray) (hn : l.length = n) (hnn : n ≤ 100) :
    Calls Try.prog 33 #[.slice (some ⟨w.heap.size, 0, none⟩) n n] (w.alloc (.cells c T)) fun e w' => e = .returned (.bool (winR (-1000000000) 1000000000 l)) ∧ Below w.heap.size w w' :=
  (thou_any (NRow.new (heap_alloc_new w (.cells c T)) hc) hn hnn).mono fun e w' ⟨h1, h2⟩ => ⟨h1, by rw [h2]; exact (Below.refl _ _).alloc (Nat.le_refl _) _⟩
/-- A policy as a value. -/
def plV (p : Pl) (a1 a2 : Option Addr) (c1 c2 : Nat) : Value := .agg #[.int .i64 p.kind, .int .i64 p.target, .slice a1 p.bands.length c1, .int .i64 p.kp, .int .i64 p.ki, .int .i64 p.kd, .int .i64 p.period, .slice a2 p.slots.length c2]
theorem within64_now {w : World} {g n : Nat} {l : List Int} {c : Array Value} {T : TypeId} (least most : Int) (hg : g = w.heap.size) (hc : c = (l.map fun n => Value.int .i64 n).toArray) (hn : l.length = n) (hnn : n ≤ 100) :
    Calls Try.prog 35 #[.int .i64 least, .int .i64 most, .slice (some ⟨g, 0, none⟩) n n] (w.alloc (.cells c T)) fun e w' => e = .returned (.bool (winR least most l)) ∧ w' = w.alloc (.cells c T) :=
  within64_any least most (NRow.new (by rw [hg]; exact heap_alloc_new w (.cells c T)) hc) hn hnn
theorem withinI_now {w : World} {g n : Nat} {l : List Int} {c : Array Value} {T : TypeId} (least most : Int) (hg : g = w.heap.size) (hc : c = (l.map fun n => Value.int .i64 n).toArray) (hn : l.length = n) (hnn : n ≤ 100) :
    Calls Try.prog 41 #[.int .i64 least, .int .i64 most, .slice (some ⟨g, 0, none⟩) n n] (w.alloc (.cells c T)) fun e w' => e = .returned (.bool (winR least most l)) ∧ w' = w.alloc (.cells c T) :=
  withinI_any least most (NRow.new (by rw [hg]; exact heap_alloc_new w (.cells c T)) hc) hn hnn
theorem thou_now {w : World} {g n : Nat} {l : List Int} {c : Array Value} {T : TypeId} (hg : g = w.heap.size) (hc : c = (l.map fun n => Value.int .i64 n).toArray) (hn : l.length = n) (hnn : n ≤ 100) :
    Calls Try.prog 33 #[.slice (some ⟨g, 0, none⟩) n n] (w.alloc (.cells c T)) fun e w' => e = .returned (.bool (winR (-1000000000) 1000000000 l)) ∧ w' = w.alloc (.cells c T) :=
  thou_any (NRow.new (by rw [hg]; exact heap_alloc_new w (.cells c T)) hc) hn hnn
end Go.Proofs.Ytnpakjdgcmbcnaa

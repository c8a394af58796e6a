/- Contracts of step, the program's and the document's, over bands that rise. -/
import Derived.Test.YtpgjjdpblilljaaStA
import Derived.Test.YtpgjjdpblilljaaEwD
import Derived.Lib.MinMax
namespace Go.Proofs.Ytpgjjdpblilljaa
set_option linter.unusedSimpArgs false
set_option linter.unusedVariables false
open Go.RowKit
open Wir Evn Stp

theorem stinto_any (l m n : Int) (w : World) :
    Calls Try.prog 51 #[.int .i64 l, .int .i64 m, .int .i64 n] w fun e w' => e = .returned (.int .i64 (bnd l m n)) ∧ w' = w := by
  have h : Hid (bnd l m n = max l (min n m)) := rfl
  go_enter Try.func51, Try.ntmps51
  go_wp2
  go_ret
  exact ⟨by rw [h.out]; rfl, rfl⟩
attribute [local go_sem] Oper.semAt_some

set_option maxRecDepth 100000 in
theorem stfind1_any {w : World} {b o n c : Nat} {l : List (Int × Int)} {p0 p1 : Nat} {u : Int} {k : Nat} (hk : k < n) (hn : n ≤ 9223372036854775807)
    (h0 : w.cell? ⟨p0, 0, none⟩ = some (.slice (some ⟨b, o, none⟩) n c)) (h1 : w.cell? ⟨p1, 0, none⟩ = some (.int .i64 u)) (h2 : w.cell? ⟨b, o + k * 2, none⟩ = some (.int .i64 (ab l k))) :
    Calls Try.prog 64 #[.int .i64 (k : Int), .pointer (some ⟨p0, 0, none⟩), .pointer (some ⟨p1, 0, none⟩)] w fun e w' => e = .returned (.bool (decide (u < ab l k))) ∧ Below w.heap.size w w' := by
  have hlt' : (k : Int) < (n : Int) := by omega
  have hk0 : (0 : Int) ≤ (k : Int) := by omega
  generalize ab l k = x at *
  go_enter Try.func64, Try.ntmps64
  go_wp2_with fail
  go_quiet (fail)
  go_wp2
  go_ret
  exact ⟨rfl, below_drewN (Below.refl _ _)⟩
set_option maxRecDepth 100000 in
set_option maxHeartbeats 1600000 in
theorem stsearch_any {w : World} {a : Option Addr} {n c : Nat} {l : List (Int × Int)} (h : PRow w a n c l) (hu : Up l) (hn6 : n ≤ 1000000) (u : Int) (p0 p1 : Nat) (h0 : w.cell? ⟨p0, 0, none⟩ = some (.slice a n c)) (h1 : w.cell? ⟨p1, 0, none⟩ = some (.int .i64 u)) :
    Calls Try.prog 63 #[.int .i64 (n : Int), .func (.func 64) #[] #[.pointer (some ⟨p0, 0, none⟩), .pointer (some ⟨p1, 0, none⟩)]] w fun e w' => e = .returned (.int .i64 (fnd l u + 1)) ∧ Below w.heap.size w w' := by
  have hl := h.2
  have hle := h.1.le
  have hmx := h.1.max
  unfold maxLen at hmx
  have HR := Lib.hid h
  have HU := Lib.hid hu
  have H0 := Lib.hid (And.intro h0 h1)
  clear h hu h0 h1
  go_enter Try.func63, Try.ntmps63
  go_wp2_with fail
  go_loopw [5, 6] (fun i j wx => ∃ x y : Nat, x ≤ y ∧ y ≤ n ∧ i = .int .i64 (x : Int) ∧ j = .int .i64 (y : Int) ∧ (∀ k, k < x → ab l k ≤ u) ∧ (∀ k, y ≤ k → k < n → u < ab l k) ∧ Below w.heap.size w wx) (fun i j _ => (intOf j).toNat - (intOf i).toNat)
  case atStart => exact ⟨0, n, Nat.zero_le _, Nat.le_refl _, rfl, rfl, fun k hk => absurd hk (by omega), fun k h1 h2 => absurd h2 (by omega), Below.refl _ _⟩
  case round =>
    obtain ⟨x, y, hxy, hyn, rfl, rfl, ha, hb, hB⟩ := hrel
    by_cases hlt : x < y
    · have hlt' : (x : Int) < (y : Int) := by omega
      obtain ⟨m, hm⟩ : ∃ m, m = (x + y) / 2 := ⟨_, rfl⟩
      have e1 : IntKind.i64.wrap ((x : Int) + (y : Int)) = (x : Int) + (y : Int) := by rw [IntKind.wrap_i64]; omega
      have e2 : IntKind.u64.wrap ((x : Int) + (y : Int)) = (x : Int) + (y : Int) := by rw [IntKind.wrap_u64]; omega
      have e3 : ((x : Int) + (y : Int)) / 2 = (m : Int) := by omega
      have e4 : IntKind.i64.wrap (m : Int) = (m : Int) := by rw [IntKind.wrap_i64]; omega
      have e5 : IntKind.i64.wrap ((m : Int) + 1) = ((m + 1 : Nat) : Int) := by rw [IntKind.wrap_i64]; omega
      have m1 : x ≤ m := by omega
      have m2 : m < y := by omega
      obtain ⟨b, o, rfl, hbl, hc⟩ := HR.out.cell (by omega)
      have c2 := (hB.cell (p := ⟨b, o + m * 2, none⟩) hbl).trans (hc m (by omega)).1
      have c0 := (hB.cell (p := ⟨p0, 0, none⟩) (block_lt_of_cell H0.out.1)).trans H0.out.1
      have c1 := (hB.cell (p := ⟨p1, 0, none⟩) (block_lt_of_cell H0.out.2)).trans H0.out.2
      have F1 := Lib.hid (stfind1_any (l := l) (k := m) (by omega) (by omega) c0 c1 c2)
      have HX := Lib.hid (And.intro ha (And.intro hb hB))
      have HN := Lib.hid (And.intro hxy (And.intro hyn (And.intro m1 m2)))
      have HL := Lib.hid hl
      clear hm c0 c1 c2 ha hb hB hc hbl hl hxy hyn m1 m2
      go_wp2_with fail
      refine F1.out.mono ?_
      rintro e w1 ⟨rfl, b1⟩
      have B1 := Lib.hid (bel2 HX.out.2.2 b1)
      clear b1
      by_cases hx : u < ab l m
      · rw [decide_eq_true hx]
        have HQ := Lib.hid hx
        clear hx
        go_wp2
        go_roundw
        case rel =>
          refine ⟨x, m, HN.out.2.2.1, by have := HN.out; omega, rfl, rfl, HX.out.1, fun k k1 k2 => ?_, B1.out⟩
          rcases Nat.lt_or_ge k y with k3 | k3
          · rcases Nat.lt_or_ge m k with k4 | k4
            · have := HU.out m k k4 (by have := HL.out; omega)
              have := HQ.out
              omega
            · have : k = m := by omega
              subst this; exact HQ.out
          · exact HX.out.2.1 k k3 k2
        case measure => have := HN.out; simp [intOf]; omega
      · rw [decide_eq_false hx]
        have HQ := Lib.hid hx
        clear hx
        go_wp2
        go_roundw
        case rel =>
          refine ⟨m + 1, y, by have := HN.out; omega, HN.out.2.1, by go_num, rfl, fun k k1 => ?_, HX.out.2.1, B1.out⟩
          rcases Nat.lt_or_ge k m with k3 | k3
          · have := HU.out k m k3 (by have := HL.out; have := HN.out; omega)
            have := HQ.out
            omega
          · have : k = m := by omega
            subst this; have := HQ.out; omega
        case measure => have := HN.out; simp [intOf]; omega
    · have ek : x = y := by omega
      subst ek
      have hf := fnd_is HU.out (u := u) (a := (x : Int) - 1) (by omega) (by omega) (fun i hi => by
        constructor
        · intro h1
          rcases Nat.lt_or_ge i x with h2 | h2
          · omega
          · have := hb i h2 (by omega); omega
        · intro h1
          exact ha i (by omega))
      have HF := Lib.hid hf
      have HB := Lib.hid hB
      clear hf hB ha hb
      go_wp2
      go_ret
      exact ⟨ret_i64 (by have := HF.out; omega), HB.out⟩
set_option maxRecDepth 100000 in
theorem stfind_any {w : World} {a : Option Addr} {n c : Nat} {l : List (Int × Int)} (h : PRow w a n c l) (hu : Up l) (hn6 : n ≤ 1000000) (u : Int) :
    Calls Try.prog 52 #[.slice a n c, .int .i64 u] w fun e w' => e = .returned (.int .i64 (fnd l u)) ∧ Below w.heap.size w w' := by
  have hf := fnd_le l u
  have hl := h.2
  have hmx := h.1.max
  have hle := h.1.le
  unfold maxLen at hmx
  have e1 : IntKind.i64.wrap (fnd l u) = fnd l u := by rw [IntKind.wrap_i64]; omega
  obtain ⟨w1, hw1⟩ : ∃ w1, w1 = (w.alloc (.cells #[.slice a n c] 22)).alloc (.cells #[.int .i64 u] 2) := ⟨_, rfl⟩
  have B : Below w.heap.size w w1 := by rw [hw1]; exact bel1 (bel1 (Below.refl _ _) _) _
  have k0 : w1.cell? ⟨w.heap.size, 0, none⟩ = some (.slice a n c) := by
    rw [hw1, World.cell?_alloc_past _ _ _ (by simp)]
    exact cell_of_one (heap_alloc_new _ _)
  have k1 : w1.cell? ⟨w.heap.size + 1, 0, none⟩ = some (.int .i64 u) := by
    rw [hw1, show w.heap.size + 1 = (w.alloc (.cells #[.slice a n c] 22)).heap.size from by simp]
    exact cell_of_one (heap_alloc_new _ _)
  have S := Lib.hid (stsearch_any (h.on B) hu hn6 u _ _ k0 k1)
  have HW := Lib.hid hw1
  have HB := Lib.hid B
  have K := Lib.hid k0
  clear h hw1 B k1 hf
  go_enter Try.func52, Try.ntmps52
  go_wp2_with fail
  rw [← HW.out]
  refine S.out.mono ?_
  rintro e w2 ⟨rfl, b2⟩
  have B2 := Lib.hid (bel2 HB.out b2)
  clear b2
  go_wp2
  go_ret
  exact ⟨rfl, B2.out⟩
end Go.Proofs.Ytpgjjdpblilljaa

/- What the statements of sched ask of a period and slots; the live question; cuts of rows. -/
import Derived.Test.YtipblgongblklaaSdB
import Derived.Test.YtipblgongblklaaEwD
namespace Go.Proofs.Ytipblgongblklaa
set_option linter.unusedSimpArgs false
open Go.RowKit
open Wir Evn Stp Sdl
attribute [local go_sem] Oper.semAt_some
set_option linter.unusedVariables false

/-- May a period, and slots, be a policy's. -/
def rightD (p : Int) (l : List (Int × Int)) : Bool := decide (l.length ≤ 8) && dslR l p
theorem rightD_ {p : Int} {l : List (Int × Int)} (h : rightD p l = true) : SOk p l := by
  unfold rightD dslR at h
  simp only [Bool.and_eq_true, decide_eq_true_eq] at h
  exact SOk.of h.2.1 h.2.2
set_option maxRecDepth 100000 in
set_option maxHeartbeats 800000 in
theorem right_any {w : World} {a : Option Addr} {c : Nat} {l : List (Int × Int)} (h : PRow w a l.length c l) (p : Int) :
    Calls Try.prog 10 #[.int .i64 p, .slice a l.length c] w fun e w' => e = .returned (.bool (rightD p l)) ∧ Below w.heap.size w w' := by
  have hmx := h.1.max
  have hle := h.1.le
  unfold maxLen at hmx
  have PO := Lib.hid (dpol4 (w := w) (a1 := none) (a2 := a) (c1 := 0) (c2 := c) 0 [] 0 0 0 p l PRow.nil_ h)
  have HP : Hid (polR ⟨4, 0, [], 0, 0, 0, p, l⟩ = dslR l p) := by
    show _ = _
    have : polR ⟨4, 0, [], 0, 0, 0, p, l⟩ = (dslR l p && zeroR ⟨0, 0, [], 0, 0, 0, 0, []⟩) := rfl
    rw [this, show zeroR ⟨0, 0, [], 0, 0, 0, 0, []⟩ = true from by decide, Bool.and_true]
  have HS : Hid (rightD p l = (decide (l.length ≤ 8) && dslR l p)) := rfl
  clear h
  unfold plV at PO
  generalize hn : l.length = n at *
  clear hn
  by_cases h8 : n ≤ 8
  · have h8' : (n : Int) ≤ 8 := by omega
    have H8 := Lib.hid h8
    clear h8
    go_enter Try.func10, Try.ntmps10
    go_wp2_with fail
    refine PO.out.mono ?_
    rintro e w1 ⟨rfl, b1⟩
    have B1 := Lib.hid b1
    clear b1
    rw [HP.out]
    have HQ : Hid (rightD p l = dslR l p) := by show _ = _; rw [HS.out, decide_eq_true H8.out]; first | done | rfl | simp
    clear HS H8 PO HP
    generalize dslR l p = q at *
    go_wp2
    go_ret
    exact ⟨ret_bool HQ.out.symm, B1.out⟩
  · have h8' : ¬ ((n : Int) ≤ 8) := by omega
    have HQ : Hid (rightD p l = false) := by show _ = _; rw [HS.out, decide_eq_false h8]; first | done | rfl | simp
    clear HS h8 PO HP
    go_enter Try.func10, Try.ntmps10
    go_wp2
    go_ret
    exact ⟨ret_bool HQ.out.symm, Below.refl _ _⟩
theorem right_n {w : World} {a : Option Addr} {n c : Nat} {l : List (Int × Int)} (h : PRow w a n c l) (p : Int) :
    Calls Try.prog 10 #[.int .i64 p, .slice a n c] w fun e w' => e = .returned (.bool (rightD p l)) ∧ Below w.heap.size w w' := by
  obtain ⟨h1, rfl⟩ := h
  exact right_any ⟨h1, rfl⟩ p
theorem at_to {p : Int} (hp : 1 ≤ p) (hp2 : p ≤ 1099511627776) (t v : Int) (w : World) (hv : tod p t = v) :
    Calls Try.prog 11 #[.int .i64 p, .int .i64 t] w fun e w' => e = .returned (.int .i64 v) ∧ w' = w := hv ▸ at_any hp hp2 t w
theorem want_to {w : World} {a : Option Addr} {n c : Nat} {l : List (Int × Int)} (h : PRow w a n c l) (hn : n ≤ 100000) {p : Int} (hp : 1 ≤ p) (hp2 : p ≤ 1099511627776) (t v : Int) (hv : swn l (tod p t) = v) :
    Calls Try.prog 13 #[.int .i64 p, .slice a n c, .int .i64 t] w fun e w' => e = .returned (.int .i64 v) ∧ Below w.heap.size w w' := hv ▸ want_any h hn hp hp2 t
/-- A row's beginning. -/
theorem PRow.cut {w : World} {a : Option Addr} {n c : Nat} {l : List (Int × Int)} (h : PRow w a n c l) {k : Nat} (hk : k ≤ n) : PRow w a k c (l.take k) := by
  have hl : (l.take k).length = k := by rw [List.length_take]; have := h.2; omega
  refine ⟨⟨by have := h.1.le; omega, h.1.max, fun hp => ?_⟩, hl⟩
  obtain ⟨b, o, e, hb, hc⟩ := h.1.at_ (by omega)
  refine ⟨b, o, e, hb, fun j hj => (hc j (by omega)).trans ?_⟩
  congr 1
  unfold intsC
  have e2 : pairs l = pairs (l.take k) ++ pairs (l.drop k) := by rw [← pairs_append, List.take_append_drop]
  rw [e2, List.getD_eq_getElem?_getD, List.getD_eq_getElem?_getD, List.getElem?_append_left (by rw [pairs_len, hl]; omega)]
def hdS : List (Int × Int) := [(0, 2), (4, 7)]
theorem hdS_row (w : World) : PRow (w.alloc (.cells #[.int .i64 0, .int .i64 2, .int .i64 4, .int .i64 7] 31)) (some ⟨w.heap.size, 0, none⟩) 2 2 hdS :=
  ⟨Row.new (heap_alloc_new w _) (fun j hj => by
    have : j = 0 ∨ j = 1 ∨ j = 2 ∨ j = 3 := by omega
    rcases this with rfl | rfl | rfl | rfl <;> rfl) (by decide), rfl⟩
set_option maxRecDepth 100000 in
set_option maxHeartbeats 3200000 in
theorem head_any (w : World) :
    Calls Try.prog 9 #[] w fun e w' => e = .returned (.bool true) ∧ Below w.heap.size w w' := by
  obtain ⟨w1, hw1⟩ : ∃ w1, w1 = w.alloc (.cells #[.int .i64 0, .int .i64 2, .int .i64 4, .int .i64 7] 31) := ⟨_, rfl⟩
  have HR : Hid (PRow w1 (some ⟨w.heap.size, 0, none⟩) 2 2 hdS) := by rw [hw1]; exact hdS_row w
  have B1 : Hid (Below w.heap.size w w1) := by rw [hw1]; exact bel1 (Below.refl _ _) _
  have K1 : Hid (Below w1.heap.size w1 w1) := Below.refl _ _
  have HW := Lib.hid hw1
  clear hw1
  go_enter Try.func9, Try.ntmps9
  go_wp2_with fail
  refine (at_to (by decide) (by decide) (-1) 9 _ (by decide)).mono ?_
  rintro e w9 ⟨rfl, rfl⟩
  go_wp2_with fail
  refine (at_to (by decide) (by decide) 20 0 _ (by decide)).mono ?_
  rintro e w9 ⟨rfl, rfl⟩
  go_wp2_with fail
  rw [← HW.out]
  refine (want_to (HR.out.on K1.out) (by decide) (by decide) (by decide) 3 2 (by decide)).mono ?_
  rintro e w3 ⟨rfl, b3⟩
  have K3 := Lib.hid (bel2 K1.out b3)
  clear b3 K1
  go_wp2_with fail
  refine (want_to (HR.out.on K3.out) (by decide) (by decide) (by decide) 14 7 (by decide)).mono ?_
  rintro e w4 ⟨rfl, b4⟩
  have K4 := Lib.hid (bel2 K3.out b4)
  clear b4 K3
  go_wp2_with fail
  refine (want_to (HR.out.on K4.out) (by decide) (by decide) (by decide) (-1) 7 (by decide)).mono ?_
  rintro e w5 ⟨rfl, b5⟩
  have K5 := Lib.hid (bel2 K4.out b5)
  clear b5 K4
  go_wp2_with fail
  refine (want_to (HR.out.on K5.out) (by decide) (by decide) (by decide) (-10) 2 (by decide)).mono ?_
  rintro e w6 ⟨rfl, b6⟩
  have K6 := Lib.hid (bel2 K5.out b6)
  clear b6 K5
  go_wp2
  go_ret
  exact ⟨rfl, bel2 B1.out K6.out⟩
end Go.Proofs.Ytipblgongblklaa

/- Contracts of the program's wire: the reader's calls. -/
import Derived.Test.YtnpakjdgcmbcnaaWrG
namespace Go.Proofs.Ytnpakjdgcmbcnaa
open Go.RowKit
open Wir

theorem num_any {w : World} {g : Nat} {s : RS} {O : Nat → Prop} (h : Rdr 86 w g s O) :
    Calls Try.prog 73 #[.pointer (some ⟨g, 0, none⟩)] w fun e w' => e = .returned (.int .i64 s.num.1) ∧ Rdr 86 w' g s.num.2 O ∧ But O w w' := by
  have T := Lib.hid (told_num h)
  clear h
  go_enter Try.func73, Try.ntmps73
  go_wp2_with fail
  refine T.out.mono ?_
  rintro e w1 ⟨rfl, h1⟩
  have H := Lib.hid h1
  clear h1
  go_wp2
  go_ret
  exact ⟨rfl, H.out⟩
theorem int_any {w : World} {g : Nat} {s : RS} {O : Nat → Prop} (h : Rdr 86 w g s O) (l m : Int) :
    Calls Try.prog 78 #[.pointer (some ⟨g, 0, none⟩), .int .i64 l, .int .i64 m] w fun e w' => e = .returned (.int .i64 (s.int l m).1) ∧ Rdr 86 w' g (s.int l m).2 O ∧ But O w w' := by
  have WI := Lib.hid (within_any l m w)
  have H0 := Lib.hid h
  clear h
  go_enter Try.func78, Try.ntmps78
  go_wp2_with fail
  refine WI.out.mono ?_
  rintro e w1 ⟨p1, p2, p3, p4, rfl, hw, hb⟩
  have T := Lib.hid (told_int (H0.out.below hb) l m p1 p2 p3 p4 hw)
  have HB := Lib.hid hb
  clear hw hb
  go_wp2_with fail
  refine T.out.mono ?_
  rintro e w2 ⟨rfl, h1, h2⟩
  have H := Lib.hid (And.intro h1 ((But.of_below (O := O) HB.out).trans h2 (fun i hi => .inl hi)))
  clear h1 h2
  go_wp2
  go_ret
  exact ⟨rfl, H.out⟩
theorem thenB_any (q1 q2 : Nat) (w : World) :
    Calls Try.prog 87 #[.func (.func 94) #[] #[.pointer (some ⟨q1, 0, none⟩), .pointer (some ⟨q2, 0, none⟩)], .func (.func 88) #[] #[]] w fun e w' =>
      ∃ p1 p2, e = .returned (.func (.func 92) #[] #[.pointer (some ⟨p1, 0, none⟩), .pointer (some ⟨p2, 0, none⟩)]) ∧
      w'.cell? ⟨p1, 0, none⟩ = some (.func (.func 94) #[] #[.pointer (some ⟨q1, 0, none⟩), .pointer (some ⟨q2, 0, none⟩)]) ∧ w'.cell? ⟨p2, 0, none⟩ = some (.func (.func 88) #[] #[]) ∧ Below w.heap.size w w' := by
  go_enter Try.func87, Try.ntmps87
  go_wp2
  go_ret
  refine ⟨w.heap.size, w.heap.size + 1, rfl, ?_, ?_, ?_⟩
  · rw [World.cell?_alloc_past _ _ _ (by simp)]
    exact cell_of_one (heap_alloc_new _ _)
  · rw [show w.heap.size + 1 = (w.alloc (.cells #[.func (.func 94) #[] #[.pointer (some ⟨q1, 0, none⟩), .pointer (some ⟨q2, 0, none⟩)]] 137)).heap.size from by simp]
    exact cell_of_one (heap_alloc_new _ _)
  · exact ((Below.refl _ _).alloc (Nat.le_refl _) _).alloc (by simp) _
theorem text_any {w : World} {g : Nat} {s : RS} {O : Nat → Prop} (h : Rdr 86 w g s O) (m : Int) :
    Calls Try.prog 81 #[.pointer (some ⟨g, 0, none⟩), .int .i64 m] w fun e w' => ∃ a c, e = .returned (.slice a (s.text m).1.length c) ∧ Sl w' w'.heap.size a (s.text m).1.length c (s.text m).1 ∧
      (∀ b o, a = some ⟨b, o, none⟩ → w.heap.size ≤ b) ∧ Rdr 86 w' g (s.text m).2 O ∧ But O w w' := by
  have WI := Lib.hid (within_any 0 m w)
  have H0 := Lib.hid h
  have hX : Hid (s.text m = s.told (tx m) []) := rfl
  clear h
  go_enter Try.func81, Try.ntmps81
  go_wp2_with fail
  refine WI.out.mono ?_
  rintro e w1 ⟨q1, q2, q3, q4, rfl, hw, hb⟩
  have TB := Lib.hid (thenB_any q1 q2 w1)
  have HB := Lib.hid (And.intro hw hb)
  clear hw hb
  go_wp2_with fail
  refine TB.out.mono ?_
  rintro e w2 ⟨p1, p2, rfl, d1, d2, hb2⟩
  have hb' := HB.out.2.trans (hb2.mono HB.out.2.size)
  have T := Lib.hid (told_text (H0.out.below hb') m p1 p2 q1 q2 q3 q4 (HB.out.1.below hb2) d1 d2)
  have HB2 := Lib.hid hb'
  clear d1 d2 hb2 hb'
  generalize s.told (tx m) [] = r at T hX
  go_wp2_with fail
  refine T.out.mono ?_
  rintro e w3 ⟨a, c, rfl, h1, h2, h3, h4⟩
  have H := Lib.hid (And.intro h1 (And.intro (show ∀ b o, a = some ⟨b, o, none⟩ → w.heap.size ≤ b from fun b o hb => Nat.le_trans HB2.out.size (h2 b o hb)) (And.intro h3 ((But.of_below (O := O) HB2.out).trans h4 (fun i hi => .inl hi)))))
  clear h1 h2 h3 h4
  go_wp2
  go_ret
  rw [hX.out]
  exact ⟨a, c, rfl, H.out⟩
end Go.Proofs.Ytnpakjdgcmbcnaa

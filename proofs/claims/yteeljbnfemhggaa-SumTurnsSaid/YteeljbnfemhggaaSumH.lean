/- The head of the statements on sums: its fixed answers. -/
import Derived.Test.YteeljbnfemhggaaSumC
import Derived.Lib.SlBytesConst
namespace Go.Proofs.Yteeljbnfemhggaa
open Go.RowKit
open Crc

/-- The same contracts, for the midst of a statement: B and the world in which it began are kept. -/
theorem of_from {B : Nat} {w0 : World} {a : Option Addr} {len cap : Nat} {bs : List Nat} (hB : B ≤ w0.heap.size) (hs : Sl w0 B a len cap bs) (w : World) (hb : Below B w0 w) :
    Calls Try.prog 9 #[.slice a len cap] w fun e w' => e = .returned (.int .u32 ((more 0 bs : Nat) : Int)) ∧ Below B w0 w' :=
  (of_any a len cap bs w ((hs.below hb (Nat.le_refl _)).more (Nat.le_trans hB hb.size))).mono fun _ _ ⟨he, h2⟩ => ⟨he, hb.trans (h2.mono (Nat.le_trans hB hb.size))⟩
theorem more_from {B : Nat} {w0 : World} {a : Option Addr} {len cap : Nat} {bs : List Nat} (s : Nat) (h : s < 4294967296) (hB : B ≤ w0.heap.size) (hs : Sl w0 B a len cap bs) (w : World) (hb : Below B w0 w) :
    Calls Try.prog 11 #[.int .u32 (s : Int), .slice a len cap] w fun e w' => e = .returned (.int .u32 ((more s bs : Nat) : Int)) ∧ Below B w0 w' :=
  (more_any s h a len cap bs w ((hs.below hb (Nat.le_refl _)).more (Nat.le_trans hB hb.size))).mono fun _ _ ⟨he, h2⟩ => ⟨he, hb.trans (h2.mono (Nat.le_trans hB hb.size))⟩

theorem info_u8 : (Try.prog.info? 5).map (fun i => (i.zero, i.size, i.bytes)) = some (some (.int .u8 0), 1, 1) := by kernel_rfl

set_option maxRecDepth 100000 in
set_option maxHeartbeats 400000 in
theorem head_any (w : World) :
    Calls Try.prog 8 #[] w fun e w' => e = .returned (.bool true) ∧ Below w.heap.size w w' := by
  have kc := fun (w : World) (C : Array Value) (n c : Nat) => Lib.run_convert_bytes_const (P := Try.prog) w 22 5 C n c Try.underlying22 Try.underlying5
  go_enter Try.func8, Try.ntmps8
  go_wp2_with fail
  refine (of_any _ _ _ [49, 50, 51, 52, 53, 54, 55, 56, 57] _ (Sl.new (heap_alloc_new _ _) (by rfl) (by decide) _ rfl (by decide))).mono ?_
  rintro e w1 ⟨rfl, hb1⟩
  rw [head1]
  have hw1 : Below w.heap.size w w1 := ((Below.refl _ w).alloc (Nat.le_refl _) _).trans (hb1.mono (by simp))
  clear hb1
  go_wp2_with fail
  refine (of_any _ _ _ [] _ Sl.nil_).mono ?_
  rintro e w2 ⟨rfl, hb2⟩
  rw [more_nil (by decide)]
  have hw2 : Below w.heap.size w w2 := hw1.trans (hb2.mono hw1.size)
  clear hb2 hw1
  go_wp2_with fail
  refine (of_any _ _ _ [0] _ (Sl.new (heap_alloc_new _ _) (by rfl) (by decide) _ rfl (by decide))).mono ?_
  rintro e w3 ⟨rfl, hb3⟩
  rw [head2]
  have hw3 : Below w.heap.size w w3 := (hw2.alloc hw2.size _).trans (hb3.mono (by have := hw2.size; simp; omega))
  clear hb3 hw2
  go_wp2_with fail
  refine (of_any _ _ _ [49, 50, 51, 52, 53] _ (Sl.new (heap_alloc_new _ _) (by rfl) (by decide) _ rfl (by decide))).mono ?_
  rintro e w4 ⟨rfl, hb4⟩
  have hl4 := more_lt 0 [49, 50, 51, 52, 53]
  have H4 := Lib.hid head3
  generalize more 0 [49, 50, 51, 52, 53] = s4 at hl4 H4
  have hw4 : Below w.heap.size w w4 := (hw3.alloc hw3.size _).trans (hb4.mono (by have := hw3.size; simp; omega))
  clear hb4 hw3
  go_wp2_with fail
  refine (more_any s4 hl4 _ _ _ [54, 55, 56, 57] _ (Sl.new (heap_alloc_new _ _) (by rfl) (by decide) _ rfl (by decide))).mono ?_
  rintro e w5 ⟨rfl, hb5⟩
  rw [H4.out]
  have hw5 : Below w.heap.size w w5 := (hw4.alloc hw4.size _).trans (hb5.mono (by have := hw4.size; simp; omega))
  clear hb5 hw4
  go_wp2
  go_ret
  exact ⟨rfl, hw5⟩
end Go.Proofs.Yteeljbnfemhggaa

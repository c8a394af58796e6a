/- SumParts: the walk. -/
import Derived.Test.YteeljbnfemhggaaSumH
import Derived.Test.YteeljbnfemhggaaOwn
import Derived.Deep.RegionHeld3
import Derived.Deep.DrawnRows
namespace Go.Proofs.Yteeljbnfemhggaa
open Go.RowKit
open Crc
attribute [local go_sem ↓] Go.wp_at_zero Go.wp_at_succ

/-- The same contracts, for the midst of a statement: B and the world in which it began are kept. -/
theorem of_from {B : Nat} {w0 : World} {a : Option Addr} {len cap : Nat} {bs : List Nat} (hB : B ≤ w0.heap.size) (hs : Sl w0 B a len cap bs) (w : World) (hb : Below B w0 w) :
    Calls Try.prog 9 #[.slice a len cap] w fun e w' => e = .returned (.int .u32 ((more 0 bs : Nat) : Int)) ∧ Below B w0 w' :=
  (of_any a len cap bs w ((hs.below hb (Nat.le_refl _)).more (Nat.le_trans hB hb.size))).mono fun _ _ ⟨he, h2⟩ => ⟨he, hb.trans (h2.mono (Nat.le_trans hB hb.size))⟩
theorem more_from {B : Nat} {w0 : World} {a : Option Addr} {len cap : Nat} {bs : List Nat} (s : Nat) (h : s < 4294967296) (hB : B ≤ w0.heap.size) (hs : Sl w0 B a len cap bs) (w : World) (hb : Below B w0 w) :
    Calls Try.prog 11 #[.int .u32 (s : Int), .slice a len cap] w fun e w' => e = .returned (.int .u32 ((more s bs : Nat) : Int)) ∧ Below B w0 w' :=
  (more_any s h a len cap bs w ((hs.below hb (Nat.le_refl _)).more (Nat.le_trans hB hb.size))).mono fun _ _ ⟨he, h2⟩ => ⟨he, hb.trans (h2.mono (Nat.le_trans hB hb.size))⟩

set_option maxHeartbeats 800000 in
theorem sumParts_walk (a : Option Addr) (len cap : Nat) (bs : List Nat) (n : Nat) (hn : n < 65536) (w : World) (hs : Sl w w.heap.size a len cap bs) :
    Calls Try.prog 4 #[.slice a len cap, .int .u16 (n : Int)] w fun e w' => e = .returned (.bool true) ∧ Below w.heap.size w w' := by
  by_cases hlen : len ≤ 9000
  · go_enter Try.func4, Try.ntmps4
    go_wp2_with fail
    refine (head_any _).mono ?_
    rintro e w1 ⟨rfl, hb1⟩
    have hs1 := (hs.below hb1 (Nat.le_refl _)).more hb1.size
    have hk : (n : Int) % ((len : Int) + 1) = ((n % (len + 1) : Nat) : Int) := by rw [Int.natCast_emod, Int.natCast_add]; rfl
    have hkl : n % (len + 1) ≤ len := by have := Nat.mod_lt n (show 0 < len + 1 by omega); omega
    generalize n % (len + 1) = k at hk hkl
    have hle := hs.le
    have hmx := hs.max
    unfold maxLen at hmx
    have hx := more_append 0 (bs.take k) (bs.drop k) (fun c hc => hs.byte c (List.mem_of_mem_take hc))
    rw [List.take_append_drop] at hx
    have O1 := Lib.hid (of_from (Nat.le_refl _) (hs1.take hkl))
    have O2 := Lib.hid (of_from (Nat.le_refl _) hs1)
    have hl1 := more_lt 0 (bs.take k)
    have hl2 := more_lt 0 bs
    have M1 := Lib.hid (more_from (more 0 (bs.take k)) hl1 (Nat.le_refl _) (hs1.from_ hkl))
    have c1 := run_cut_to (P := Try.prog) 22 5 Try.underlying22 info_u8 a len cap k (by omega)
    have c2 : ∀ w, (Instr.slice 22 (.slice a len cap) (some (.int .i64 (k : Int))) none none).run Try.prog w = .ok (.slice (fromA a cap k) (len - k) (cap - k)) w := run_cut_from (P := Try.prog) 22 5 Try.underlying22 info_u8 a len cap k hkl
    generalize fromA a cap k = a2 at M1 c2
    generalize hq1 : len - k = q1 at M1 c2
    generalize hq2 : cap - k = q2 at M1 c2
    clear hq1 hq2
    have M2 := Lib.hid (more_from (more 0 bs) hl2 (Nat.le_refl _) (Sl.nil_ (w := w1) (B := w1.heap.size)))
    rw [more_nil hl2] at M2
    rw [← hx] at M1
    clear hx
    generalize more 0 bs = x at O2 M1 M2 hl2
    generalize more 0 (bs.take k) = x1 at O1 M1 hl1
    have hS := Below.refl w1.heap.size w1
    go_wp2_with fail
    go_region_held3 (fun w' => Below w1.heap.size w1 w') (first | assumption | exact Below.drew (by assumption)) (first
      | (go_at_call 9; with_reducible refine (O2.out _ (by assumption)).mono ?_; rintro e w' ⟨rfl, hb'⟩)
      | (go_at_call 9; with_reducible refine (O1.out _ (by assumption)).mono ?_; rintro e w' ⟨rfl, hb'⟩)
      | (go_at_call 11; with_reducible refine (M1.out _ (by assumption)).mono ?_; rintro e w' ⟨rfl, hb'⟩)
      | (go_at_call 11; with_reducible refine (M2.out _ (by assumption)).mono ?_; rintro e w' ⟨rfl, hb'⟩))
    go_wp2
    go_ret
    exact ⟨rfl, hb1.trans (Below.mono (by assumption) hb1.size)⟩
  · have hgt : (9000 : Int) < (len : Int) := by omega
    go_enter Try.func4, Try.ntmps4
    go_wp2_with fail
    refine (head_any _).mono ?_
    rintro e w1 ⟨rfl, hb1⟩
    go_wp2
    go_ret
    exact ⟨by simp, hb1⟩
end Go.Proofs.Yteeljbnfemhggaa

/- SumTells: the walk. -/
import Derived.Test.YteeljbnfemhggaaSumH
import Derived.Test.YteeljbnfemhggaaSumR
namespace Go.Proofs.Yteeljbnfemhggaa
open Go.RowKit
open Crc

set_option maxHeartbeats 800000 in
theorem sumTells_walk (a : Option Addr) (len cap : Nat) (bs : List Nat) (s : Nat) (h : s < 4294967296) (w : World) (hs : Sl w w.heap.size a len cap bs) :
    Calls Try.prog 3 #[.slice a len cap, .int .u32 (s : Int)] w fun e w' => e = .returned (.bool true) ∧ Below w.heap.size w w' := by
  by_cases hlen : len ≤ 9000
  · go_enter Try.func3, Try.ntmps3
    go_wp2_with fail
    refine (head_any _).mono ?_
    rintro e w1 ⟨rfl, hb1⟩
    have hs1 := hs.below hb1 (Nat.le_refl _)
    go_wp2_with fail
    refine (of_any a len cap bs _ (hs1.more hb1.size)).mono ?_
    rintro e w2 ⟨rfl, hb2⟩
    have hb02 : Below w.heap.size w w2 := hb1.trans (hb2.mono hb1.size)
    go_wp2_with fail
    have hs2 := (hs.below hb02 (Nat.le_refl _)).more hb02.size
    refine (rof_any a len cap bs _ hs2).mono ?_
    rintro e w3 ⟨rfl, rfl⟩
    have Hx := more_lt 0 bs
    generalize more 0 bs = x at Hx
    go_wp2_with fail
    refine (more_any s h a len cap bs _ hs2).mono ?_
    rintro e w3 ⟨rfl, hb3⟩
    have hb03 : Below w.heap.size w w3 := hb02.trans (hb3.mono hb02.size)
    have hs3 := (hs.below hb03 (Nat.le_refl _)).more hb03.size
    go_wp2_with fail
    refine (rmore_any s h a len cap bs _ hs3).mono ?_
    rintro e w4 ⟨rfl, rfl⟩
    generalize more s bs = y
    go_wp2
    go_ret
    exact ⟨by simp, hb03⟩
  · have hgt : (9000 : Int) < (len : Int) := by omega
    go_enter Try.func3, Try.ntmps3
    go_wp2_with fail
    refine (head_any _).mono ?_
    rintro e w1 ⟨rfl, hb1⟩
    go_wp2
    go_ret
    exact ⟨by simp, hb1⟩
end Go.Proofs.Yteeljbnfemhggaa

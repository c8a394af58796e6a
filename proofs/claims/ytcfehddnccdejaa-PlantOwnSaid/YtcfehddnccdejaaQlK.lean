/- The places of a plant, told from behind: slices.Backward over a row, fromBehind. -/
import Derived.Test.YtcfehddnccdejaaQlC
import Derived.Test.YtcfehddnccdejaaRgN
import Derived.Test.YtcfehddnccdejaaTailG
import Derived.RangeFuncBound
import Derived.RangeFuncCalls
import Derived.Shelf.Abstract
import Derived.OwnWalkIn
import Derived.TacticsInMore
import Derived.LoopNIn
import Derived.LoopIn
namespace Go.Proofs.Ytcfehddnccdejaa
set_option linter.unusedSimpArgs false
set_option linter.unusedVariables false
open Go.RowKit Go.Shelf
open Evn Plt
attribute [local go_sem] Oper.semAt_some

/-- The cells of a row can be read. -/
def Rdb (X : World) (a : Option Addr) (len : Nat) : Prop := 0 < len → ∃ b o, a = some ⟨b, o, none⟩ ∧ ∀ j, j < len → ∃ x, X.cell? ⟨b, o + j, none⟩ = some (.int .i64 x)
/-- Where the places are, from behind. -/
def plc (a : Option Addr) (g len k : Nat) : Addr := if k < len then (match a with
  | some ⟨b, o, _⟩ => ⟨b, o + (len - 1 - k), none⟩
  | none => ⟨g, 0, none⟩) else ⟨g, 0, none⟩

set_option maxRecDepth 100000 in
set_option maxHeartbeats 2000000 in
theorem qback_tells (Bs : Nat) (a : Option Addr) (len cap : Nat) (hl : len ≤ 100000) (w : World) :
    TellsN Fence.wide 9 Try.prog 42 #[.pointer (some ⟨Bs, 0, none⟩)] (fun k (x : Int) => #[.int .i64 ((len - 1 - k : Nat) : Int), .int .i64 x]) (fun _ X => Boxed X Bs 24 (.slice a len cap) ∧ Rdb X a len) len w := by
  intro l J Jx W hBW hsz hJ hJx hU hY h0
  have HU := Lib.hid hU
  have HY := Lib.hid hY
  have hB0 := (hU 0 W h0).1.cell
  clear hU hY hJ hJx hBW hsz
  refine callsIn_of_wp Try.func42 rfl trivial ?_ rfl
  simp only [Try.ntmps42, List.size_toArray, List.length_cons, List.length_nil, Nat.reduceAdd, Nat.reduceSub, Array.replicate_succ, Array.replicate_zero, List.push_toArray, List.append_toArray, List.nil_append, List.cons_append]
  gi_wp2
  gi_loopw [3] (fun i wr => ∃ k : Nat, k ≤ len ∧ i = .int .i64 ((len : Int) - 1 - (k : Int)) ∧ J k wr)
    (fun i _ => (intOf i + 1).toNat)
  case atStart => exact ⟨0, Nat.zero_le _, by simp, h0⟩
  case round =>
    clear hB0
    obtain ⟨k, hk, rfl, hJs⟩ := hrel
    have hB1 := (HU.out k wr hJs).1.cell
    by_cases hlt : k < len
    · obtain ⟨b, o, rfl, hcc⟩ := (HU.out k wr hJs).2 (by omega)
      obtain ⟨x, hx⟩ := hcc (len - 1 - k) (by omega)
      have hy9 := yield_wide0 (m' := 8) (HY.out k x wr hJs hlt)
      obtain ⟨q, hq⟩ : ∃ q, q = len - 1 - k := ⟨_, rfl⟩
      rw [← hq] at hx hy9
      have hqi : (len : Int) - 1 - (k : Int) = (q : Int) := by omega
      rw [hqi]
      have hq1 : (q : Int) < (len : Int) := by omega
      have hq0 : (0 : Int) ≤ (q : Int) := by omega
      have Hq := Lib.hid hq
      obtain ⟨fn, tmps, assign, body, hy, hR⟩ := hy9
      try dsimp only at hy
      clear hcc hq hqi
      gi_wp2
      refine hR.mono ?_
      rintro e W3 ⟨_, (⟨rfl, hJ3⟩ | ⟨rfl, hJx3⟩)⟩
      · gi_wp2
        go_roundw
        case rel => exact ⟨k + 1, by omega, by have := Hq.out; go_num, hJ3⟩
        case measure => simp [intOf]
      · gi_wp2
        refine bodyPost_ret (results_none rfl _ _ _) rfl ?_
        exact ⟨⟨_, rfl⟩, .inr hJx3⟩
    · have hkl : k = len := by omega
      subst hkl
      rw [show (k : Int) - 1 - (k : Int) = -1 from by omega]
      gi_wp2
      go_end0
      exact ⟨⟨_, rfl⟩, .inl hJs⟩
theorem qback_in (a : Option Addr) (len cap : Nat) (w : World) :
    CallsIn Fence.wide 9 Try.prog 39 #[.slice a len cap] w fun e w' => e = .returned (.func (.func 42) #[] #[.pointer (some ⟨w.heap.size, 0, none⟩)]) ∧ w' = w.alloc (.cells #[.slice a len cap] 24) := by
  refine callsIn_of_wp Try.func39 rfl trivial ?_ rfl
  simp only [Try.ntmps39, List.size_toArray, List.length_cons, List.length_nil, Nat.reduceAdd, Nat.reduceSub, Array.replicate_succ, Array.replicate_zero, List.push_toArray, List.append_toArray, List.nil_append, List.cons_append]
  gi_wp2
  go_ret
  exact ⟨rfl, rfl⟩
theorem qfrom_in (g : Nat) (w : World) :
    CallsIn Fence.wide 9 Try.prog 31 #[.pointer (some ⟨g, 0, none⟩)] w fun e w' => e = .returned (.func (.func 38) #[] #[.pointer (some ⟨w.heap.size, 0, none⟩)]) ∧ w' = w.alloc (.cells #[.pointer (some ⟨g, 0, none⟩)] 47) := by
  refine callsIn_of_wp Try.func31 rfl trivial ?_ rfl
  simp only [Try.ntmps31, List.size_toArray, List.length_cons, List.length_nil, Nat.reduceAdd, Nat.reduceSub, Array.replicate_succ, Array.replicate_zero, List.push_toArray, List.append_toArray, List.nil_append, List.cons_append]
  gi_wp2
  go_ret
  exact ⟨rfl, rfl⟩
end Go.Proofs.Ytcfehddnccdejaa

/- The statements' Great. -/
import Derived.Test.YtcmgefccihehkaaDoorSgW
namespace Go.Proofs.YtcmgefccihehkaaDoor
open Go.RowKit
open Crc Frm

set_option maxRecDepth 100000 in
set_option maxHeartbeats 3200000 in
theorem great_any (a : Option Addr) (len cap : Nat) (fs : List Fr) (w : World) (hs : Frs w w.heap.size a len cap fs) (h20 : len ≤ 20) :
    Calls Tryd.prog 25 #[.slice a len cap] w fun e w' => ∃ g, e = .returned (.bool g) ∧ Below w.heap.size w w' := by
  have hsl := hs.length
  have hle := hs.le
  have hmx := hs.max
  unfold maxLen at hmx
  have h20' : (len : Int) ≤ 20 := by omega
  go_enter Tryd.func25, Tryd.ntmps25
  go_wp2_with fail
  go_loopw [3, 4] (fun n i wx => ∃ k c : Nat, k ≤ len ∧ i = .int .i64 (k : Int) ∧ n = .int .i64 (c : Int) ∧ c ≤ len + 9000 * k ∧ Below w.heap.size w wx) (fun _ i _ => len - (intOf i).toNat)
  case atStart => exact ⟨0, len, by omega, rfl, rfl, by omega, Below.refl _ _⟩
  case round =>
    obtain ⟨k, c, hk, rfl, rfl, hc, hB⟩ := hrel
    by_cases hlt : k < len
    · by_cases h9 : c < 9000
      · obtain ⟨b, o, rfl, hb, hcc⟩ := (hs.below hB (Nat.le_refl _)).at_ (by omega)
        obtain ⟨ba, bc, x0, x1, x2, s1⟩ := hcc k fs[k] (List.getElem?_eq_getElem (by omega))
        generalize fs[k].body.length = lb at x2
        have hmin : ∀ w, (Builtin.min_ #[3, 3] 3 #[.int .i64 (lb : Int), .int .i64 9000]).run Tryd.prog w = .ok (.int .i64 ((min lb 9000 : Nat) : Int)) w := min2_any lb 9000
        obtain ⟨m, hm⟩ : ∃ m, m = min lb 9000 := ⟨_, rfl⟩
        rw [← hm] at hmin
        have hm9 : m ≤ 9000 := by omega
        have HB := Lib.hid hB
        clear hcc hm s1 x0 x1 hB
        go_wp2_with fail
        go_roundw
        case rel => exact ⟨k + 1, c + m, by omega, by go_num, by go_num, by omega, HB.out⟩
        case measure => simp [intOf]; omega
      · go_wp2_with fail
        go_ret
        exact ⟨_, rfl, hB⟩
    · go_wp2_with fail
      go_ret
      exact ⟨_, rfl, hB⟩
end Go.Proofs.YtcmgefccihehkaaDoor

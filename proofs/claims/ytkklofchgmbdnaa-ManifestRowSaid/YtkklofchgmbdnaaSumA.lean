/- Contracts of the program's sum: down. -/
import Derived.Test.YtkklofchgmbdnaaProg
import Derived.Test.YtkklofchgmbdnaaChecked
import Derived.Test.YtkklofchgmbdnaaCrc
import Derived.Test.YtkklofchgmbdnaaMem
import Derived.WalkKit
import Derived.WalkLawsBesides
import Derived.Laws.BitsAllLaws
import Derived.Lib.Hide
import Derived.IntWalk
import Derived.Below
import Derived.Outline
namespace Go.Proofs.Ytkklofchgmbdnaa
open Go.RowKit
open Crc

/-- One step of the register, in the walk's spelling: the bit that goes out. -/
theorem and_one (r : Nat) (h : r < 4294967296) : bits .and .u32 (r : Int) 1 = ((r % 2 : Nat) : Int) := by
  have := u32_and_nat r 1 h (by decide)
  rw [Nat.and_one_is_mod] at this
  exact this
theorem xor_poly (r : Nat) (h : r < 4294967296) : bits .xor .u32 (r : Int) 3988292384 = ((r ^^^ P : Nat) : Int) :=
  u32_xor_nat r 3988292384 h (by decide)

theorem stp_odd (x : Nat) (h : x < 4294967296) (ho : (bits .and .u32 (x : Int) 1 == 1) = true) :
    bits .xor .u32 ((x : Int) / 2) 3988292384 = ((stp x : Nat) : Int) := by
  rw [and_one x h] at ho
  have h1 : x % 2 = 1 := by have := beq_iff_eq.1 ho; omega
  have e : (x : Int) / 2 = ((x / 2 : Nat) : Int) := by omega
  rw [e, xor_poly _ (by omega)]
  unfold stp; rw [if_pos h1]
theorem stp_even (x : Nat) (h : x < 4294967296) (ho : (bits .and .u32 (x : Int) 1 == 1) = false) :
    (x : Int) / 2 = ((stp x : Nat) : Int) := by
  rw [and_one x h] at ho
  have h1 : ¬ x % 2 = 1 := by have := beq_eq_false_iff_ne.1 ho; omega
  unfold stp; rw [if_neg h1, Nat.xor_zero]; omega
theorem stpN_go (k x : Nat) (hk : k < 8) : stpN (8 - (k + 1)) (stp x) = stpN (8 - k) x := by
  obtain ⟨m, hm⟩ : ∃ m, 8 - k = m + 1 := ⟨7 - k, by omega⟩
  rw [hm, show 8 - (k + 1) = m from by omega]; rfl

set_option maxHeartbeats 400000 in
theorem down_any (r : Nat) (h : r < 4294967296) (w : World) :
    Calls Try.prog 106 #[.int .u32 (r : Int)] w fun e w' => e = .returned (.int .u32 ((dn r : Nat) : Int)) ∧ w = w' := by
  go_enter Try.func106, Try.ntmps106
  go_wp2
  go_loop [0, 3, 4] (fun a _ i => ∃ k x : Nat, k ≤ 8 ∧ x < 4294967296 ∧ a = .int .u32 (x : Int) ∧ i = .int .i64 (k : Int) ∧ stpN (8 - k) x = dn r) (fun _ _ i => 8 - (intOf i).toNat)
  case atStart => exact ⟨0, r, by omega, h, rfl, rfl, rfl⟩
  case round =>
    obtain ⟨k, x, hk, hx, rfl, rfl, hs⟩ := hrel
    have H := Lib.hid hs
    clear hs
    go_wp2
    · have ho : (bits .and .u32 (x : Int) 1 == 1) = true := by assumption
      have hlt : (k : Int) < 8 := by assumption
      exact ⟨⟨k + 1, stp x, by omega, stp_lt hx, val_u32 (stp_odd x hx ho), by go_num, by rw [stpN_go k x (by omega)]; exact H.out⟩, by simp [intOf]; omega⟩
    · have ho : (bits .and .u32 (x : Int) 1 == 1) = false := by assumption
      have hlt : (k : Int) < 8 := by assumption
      exact ⟨⟨k + 1, stp x, by omega, stp_lt hx, val_u32 (stp_even x hx ho), by go_num, by rw [stpN_go k x (by omega)]; exact H.out⟩, by simp [intOf]; omega⟩
    · have hge : (8 : Int) ≤ (k : Int) := by assumption
      have e : x = dn r := by have := H.out; rw [show 8 - k = 0 from by omega] at this; exact this
      go_ret
      exact ⟨ret_u32 (by rw [e]), rfl⟩
end Go.Proofs.Ytkklofchgmbdnaa

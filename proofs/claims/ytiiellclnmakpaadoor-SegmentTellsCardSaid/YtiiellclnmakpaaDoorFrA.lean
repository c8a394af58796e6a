/- Contracts of the program's frame: Right; the reader's closure. -/
import Derived.Test.YtiiellclnmakpaaDoorSumF
import Derived.Test.YtiiellclnmakpaaDoorLine
import Derived.Test.YtiiellclnmakpaaDoorFrm
import Derived.OneCell
namespace Go.Proofs.YtiiellclnmakpaaDoor
open Go.RowKit
open Crc Frm

theorem ret_right_no (f : Fr) (h : ¬ (1 ≤ f.ty ∧ f.ty ≤ 15 ∧ 0 ≤ f.seq ∧ f.seq ≤ 1073741824)) : Ending.returned (.bool false) = .returned (.bool (decide f.right)) := by
  rw [decide_eq_false]
  unfold Fr.right
  omega
theorem ret_right_yes (f : Fr) (h : 1 ≤ f.ty ∧ f.ty ≤ 15 ∧ 0 ≤ f.seq ∧ f.seq ≤ 1073741824) : Ending.returned (.bool (decide ((f.body.length : Int) ≤ 1800))) = .returned (.bool (decide f.right)) := by
  refine ret_bool (decide_eq_decide.2 ?_)
  unfold Fr.right
  omega
set_option maxHeartbeats 400000 in
theorem right_any (f : Fr) (a : Option Addr) (cap : Nat) (w : World) :
    Calls Tryd.prog 60 #[.agg #[.int .i64 f.ty, .int .i64 f.seq, .slice a f.body.length cap]] w fun e w' => e = .returned (.bool (decide f.right)) ∧ Below w.heap.size w w' := by
  obtain ⟨ty, seq, body⟩ := f
  go_enter Tryd.func60, Tryd.ntmps60
  go_wp2
  all_goals
    go_ret
    refine ⟨?_, (Below.refl _ _).alloc (Nat.le_refl _) _⟩
    first
      | (refine ret_right_yes ⟨ty, seq, body⟩ ?_; simp only; omega)
      | (refine ret_right_no ⟨ty, seq, body⟩ ?_; simp only; omega)

/-- The same, wherever the frame's parts stand. -/
theorem right_of (f : Fr) (ty seq : Int) (len : Nat) (h1 : f.ty = ty) (h2 : f.seq = seq) (h3 : f.body.length = len) (a : Option Addr) (cap : Nat) (w : World) :
    Calls Tryd.prog 60 #[.agg #[.int .i64 ty, .int .i64 seq, .slice a len cap]] w fun e w' => e = .returned (.bool (decide f.right)) ∧ Below w.heap.size w w' := by
  subst h1 h2 h3
  exact right_any f a cap w

theorem or_byte (a c : Nat) (ha : a < 4294967296) (hc : c < 256) : bits .or .i64 ((a : Int) * 256) (c : Int) = ((a * 256 + c : Nat) : Int) := by
  rw [show (a : Int) * 256 = ((a * 256 : Nat) : Int) from by omega]
  have h1 : a * 256 ||| c = a * 256 + c := by
    have := Nat.two_pow_add_eq_or_of_lt (i := 8) (b := c) (by simpa using hc) a
    rw [show (2 : Nat) ^ 8 = 256 from rfl, Nat.mul_comm] at this
    exact this.symm
  have hx : a * 256 ||| c < 2 ^ 64 := by rw [h1]; omega
  show IntKind.i64.wrap ((BitVec.ofInt 64 ((a * 256 : Nat) : Int) ||| BitVec.ofInt 64 (c : Int)).toNat : Int) = _
  rw [BitVec.toNat_or, ofInt_u64 _ (by omega), ofInt_u64 _ (by omega), h1, IntKind.wrap_i64]
  omega

set_option maxHeartbeats 400000 in
theorem next_any (size : Nat) (h4 : size ≤ 4) (gb ga : Nat) (hg : gb < ga) (a : Option Addr) (len cap : Nat) (bs : List Nat) (p : Nat) (w : World) (hb : w.heap[gb]? = some (.cells #[.slice a len cap] 22 (0, 0)))
    (ha : w.heap[ga]? = some (.cells #[.int .i64 (p : Int)] 3 (0, 0))) (hs : Sl w ga a len cap bs) (hfit : p + size ≤ len) :
    Calls Tryd.prog 87 #[.int .i64 (size : Int), .pointer (some ⟨gb, 0, none⟩), .pointer (some ⟨ga, 0, none⟩)] w fun e w' =>
      e = .returned (.int .i64 ((val ((bs.take (p + size)).drop p) : Nat) : Int)) ∧ w'.heap[ga]? = some (.cells #[.int .i64 ((p + size : Nat) : Int)] 3 (0, 0)) ∧ w.grownBy w' (some ga) := by
  have hle := hs.le
  have hmx := hs.max
  unfold maxLen at hmx
  go_enter Tryd.func87, Tryd.ntmps87
  go_wp2_with fail
  go_loopw [5, 7] (fun v i wr => ∃ k : Nat, k ≤ size ∧ i = .int .i64 (k : Int) ∧ v = .int .i64 ((val ((bs.take (p + k)).drop p) : Nat) : Int) ∧ wr.heap[ga]? = some (.cells #[.int .i64 ((p + k : Nat) : Int)] 3 (0, 0)) ∧ w.grownBy wr (some ga))
    (fun _ i _ => size - (intOf i).toNat)
  case atStart => exact ⟨0, by omega, rfl, by rw [Nat.add_zero, List.drop_of_length_le (by rw [List.length_take]; omega)]; rfl, ha, World.grownBy.refl _ _⟩
  case round =>
    obtain ⟨k, hk, rfl, rfl, hga, hB⟩ := hrel
    by_cases hlt : k < size
    · obtain ⟨b, o, rfl, hbl, hc⟩ := hs.at_ (by omega)
      have c1 := hB.cell (hc (p + k) (by omega)) (show some b ≠ some ga from fun h => by injection h with h; omega)
      have c2 := cell_of_one ((hB.block gb (lt_of_heap hb) (by simp; omega)).trans hb)
      have c3 := cell_of_one hga
      have f3 := free_of_one hga
      have hcb := hs.lt (k := p + k) (by omega)
      have hvl : val ((bs.take (p + k)).drop p) < 16777216 := by
        have h1 := val_lt ((bs.take (p + k)).drop p) (fun c hc => hs.byte c (List.mem_of_mem_take (List.mem_of_mem_drop hc)))
        have h2 : ((bs.take (p + k)).drop p).length ≤ 3 := by rw [List.length_drop, List.length_take]; omega
        have h3 := Nat.pow_le_pow_right (n := 256) (by decide) h2
        omega
      have hstep : val ((bs.take (p + (k + 1))).drop p) = val ((bs.take (p + k)).drop p) * 256 + bs.getD (p + k) 0 := by
        have hl := hs.length
        rw [← Nat.add_assoc, List.take_succ_eq_append_getElem (by omega), List.drop_append_of_le_length (by rw [List.length_take]; omega), val_snoc, List.getD_eq_getElem?_getD, List.getElem?_eq_getElem (by omega)]
        rfl
      have Hs := Lib.hid hstep
      have Hg := Lib.hid hga
      clear hstep hga hc
      generalize val ((bs.take (p + k)).drop p) = v at hvl Hs
      generalize bs.getD (p + k) 0 = c at c1 hcb Hs
      have ho := or_byte v c (by omega) hcb
      rw [show v * 256 + c = val ((bs.take (p + (k + 1))).drop p) from Hs.out.symm] at ho
      go_wp2
      refine ⟨⟨k + 1, by omega, by go_num, by first | rfl | rw [ho], ?_, hB.trans (grownBy_setCell _ _ _)⟩, by simp [intOf]; omega⟩
      have := one_setCell (u := .int .i64 ((p : Int) + (k : Int) + 1)) Hg.out
      rw [this]
      go_num
    · have hk' : k = size := by omega
      subst hk'
      have Hg := Lib.hid hga
      clear hga
      go_wp2
      go_ret
      exact ⟨rfl, Hg.out, hB⟩
end Go.Proofs.YtiiellclnmakpaaDoor

/- Contracts of the reference: More, Of, bit by bit. -/
import Derived.Test.YtiiellclnmakpaaDoorSumF
namespace Go.Proofs.YtiiellclnmakpaaDoor
open Go.RowKit
open Crc

theorem stp_odd' (x : Nat) (h : x < 4294967296) (ho : ((x : Int) % 2 == 1) = true) : bits .xor .u32 ((x : Int) / 2) 3988292384 = ((stp x : Nat) : Int) := by
  have h1 : x % 2 = 1 := by have := beq_iff_eq.1 ho; omega
  have e : (x : Int) / 2 = ((x / 2 : Nat) : Int) := by omega
  rw [e, xor_poly _ (by omega)]
  unfold stp; rw [if_pos h1]
theorem stp_even' (x : Nat) (ho : ((x : Int) % 2 == 1) = false) : (x : Int) / 2 = ((stp x : Nat) : Int) := by
  have h1 : ¬ x % 2 = 1 := by have := beq_eq_false_iff_ne.1 ho; omega
  unfold stp; rw [if_neg h1, Nat.xor_zero]; omega
theorem refFold_snoc (r : Nat) (a : List Nat) (c : Nat) : refFold r (a ++ [c]) = byB (refFold r a) c := by simp [refFold]

set_option maxRecDepth 100000 in
set_option maxHeartbeats 800000 in
theorem rmore_any (s : Nat) (h : s < 4294967296) (a : Option Addr) (len cap : Nat) (bs : List Nat) (w : World) (hs : Sl w w.heap.size a len cap bs) :
    Calls Tryd.prog 39 #[.int .u32 (s : Int), .slice a len cap] w fun e w' => e = .returned (.int .u32 ((more s bs : Nat) : Int)) ∧ w = w' := by
  have hle := hs.le
  have hmx := hs.max
  unfold maxLen at hmx
  have hn := not_u32 s h
  have hnl := neg_lt s
  have Hm : Hid (more s bs = neg (refFold (neg s) bs)) := by show _ = _; rw [refFold_eq]; rfl
  generalize neg s = n at hn hnl Hm
  go_enter Tryd.func39, Tryd.ntmps39
  go_wp2_with fail
  go_loop [5, 6, 7] (fun x i _ => ∃ k y : Nat, k ≤ len ∧ y < 4294967296 ∧ i = .int .i64 (k : Int) ∧ x = .int .u32 (y : Int) ∧ y = refFold n (bs.take k)) (fun _ i _ => len - (intOf i).toNat)
  case atStart => exact ⟨0, n, by omega, hnl, rfl, rfl, by simp [refFold]⟩
  case round =>
    obtain ⟨k, y, hk, hy, rfl, rfl, he⟩ := hrel
    have He := Lib.hid he
    clear he
    by_cases hlt : k < len
    · obtain ⟨b, o, rfl, hb, hc⟩ := hs.at_ (by omega)
      have hck := hc k hlt
      have hcb := hs.lt hlt
      have Hf : Hid (byB y (bs.getD k 0) = refFold n (bs.take (k + 1))) := by
        show _ = _
        rw [List.take_succ_eq_append_getElem (by have := hs.length; omega), refFold_snoc, ← He.out, List.getD_eq_getElem?_getD, List.getElem?_eq_getElem (by have := hs.length; omega)]
        rfl
      generalize bs.getD k 0 = c at hck hcb Hf
      clear hc
      have hx : bits .xor .u32 (y : Int) (c : Int) = (((y ^^^ c : Nat)) : Int) := u32_xor_nat y c hy (by omega)
      have hxl := xor_lt32 hy (show c < 4294967296 by omega)
      have Hb : Hid (byB y c = stpN 8 (y ^^^ c)) := rfl
      generalize y ^^^ c = z at hx hxl Hb
      go_wp2_with fail
      go_loop [5, 7] (fun x i => ∃ j v : Nat, j ≤ 8 ∧ v < 4294967296 ∧ i = .int .i64 (j : Int) ∧ x = .int .u32 (v : Int) ∧ stpN (8 - j) v = stpN 8 z) (fun _ i => 8 - (intOf i).toNat)
      case atStart => exact ⟨0, z, by omega, hxl, rfl, rfl, rfl⟩
      case round =>
        obtain ⟨j, v, hj, hv, rfl, rfl, hr⟩ := hrel
        have Hr := Lib.hid hr
        clear hr
        go_wp2
        · have ho : ((v : Int) % 2 == 1) = true := by assumption
          have hlt' : (j : Int) < 8 := by assumption
          exact ⟨⟨j + 1, stp v, by omega, stp_lt hv, by go_num, val_u32 (stp_odd' v hv ho), by rw [stpN_go j v (by omega)]; exact Hr.out⟩, by simp [intOf]; omega⟩
        · have ho : ((v : Int) % 2 == 1) = false := by assumption
          have hlt' : (j : Int) < 8 := by assumption
          exact ⟨⟨j + 1, stp v, by omega, stp_lt hv, by go_num, val_u32 (stp_even' v ho), by rw [stpN_go j v (by omega)]; exact Hr.out⟩, by simp [intOf]; omega⟩
        · have hge : (8 : Int) ≤ (j : Int) := by assumption
          have e : v = refFold n (bs.take (k + 1)) := by
            have := Hr.out; rw [show 8 - j = 0 from by omega] at this
            rw [← Hf.out, Hb.out]; exact this
          exact ⟨⟨k + 1, v, by omega, hv, by go_num, rfl, e⟩, by simp [intOf]; omega⟩
    · go_wp2
      go_ret
      have e : y = refFold n bs := by rw [He.out, List.take_of_length_le (by have := hs.length; omega)]
      refine ⟨ret_u32 ?_, rfl⟩
      rw [not_u32 y hy, Hm.out, e]

theorem rof_any (a : Option Addr) (len cap : Nat) (bs : List Nat) (w : World) (hs : Sl w w.heap.size a len cap bs) :
    Calls Tryd.prog 23 #[.slice a len cap] w fun e w' => e = .returned (.int .u32 ((more 0 bs : Nat) : Int)) ∧ w = w' := by
  go_enter Tryd.func23, Tryd.ntmps23
  go_wp2_with fail
  refine (rmore_any 0 (by decide) a len cap bs _ hs).mono ?_
  rintro e w1 ⟨rfl, rfl⟩
  go_wp2
  go_ret
  exact ⟨rfl, rfl⟩
end Go.Proofs.YtiiellclnmakpaaDoor

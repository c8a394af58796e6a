/- Contracts of the program's sum: fold, More, Of. -/
import Derived.Test.YtkklofchgmbdnaaSumB
namespace Go.Proofs.Ytkklofchgmbdnaa
open Go.RowKit
open Crc

def tabCells : Array Value := (tabAt 256).toArray

set_option maxRecDepth 100000 in
set_option maxHeartbeats 400000 in
theorem fold_any (r : Nat) (hr : r < 4294967296) (a : Option Addr) (len cap : Nat) (bs : List Nat) (w : World) (hs : Sl w w.heap.size a len cap bs) :
    Calls Try.prog 97 #[.agg tabCells, .int .u32 (r : Int), .slice a len cap] w fun e w' => e = .returned (.int .u32 ((fold r bs : Nat) : Int)) ∧ Below w.heap.size w w' := by
  have hle := hs.le
  have hmx := hs.max
  unfold maxLen at hmx
  go_enter Try.func97, Try.ntmps97
  go_wp2_with fail
  go_loop [1, 8, 11] (fun x _ i => ∃ k y : Nat, k ≤ len ∧ y < 4294967296 ∧ i = .int .i64 (k : Int) ∧ x = .int .u32 (y : Int) ∧ y = fold r (bs.take k)) (fun _ _ i => len - (intOf i).toNat)
  case atStart => exact ⟨0, r, by omega, hr, rfl, rfl, by simp [fold]⟩
  case round =>
    obtain ⟨k, y, hk, hy, rfl, rfl, he⟩ := hrel
    have He := Lib.hid he
    clear he
    by_cases hlt : k < len
    · obtain ⟨b, o, rfl, hb, hc⟩ := hs.at_ (by omega)
      have hck : (w.alloc (.cells tabCells 115)).cell? ⟨b, o + k, none⟩ = some (.int .u8 ((bs.getD k 0 : Nat) : Int)) := by
        rw [World.cell?_alloc_past _ _ _ hb]; exact hc k hlt
      have hcb := hs.lt hlt
      have Hf : Hid (byT y (bs.getD k 0) = fold r (bs.take (k + 1))) := by
        show _ = _
        rw [List.take_succ_eq_append_getElem (by have := hs.length; omega), fold_snoc, ← He.out, List.getD_eq_getElem?_getD, List.getElem?_eq_getElem (by have := hs.length; omega)]
        rfl
      generalize bs.getD k 0 = c at hck hcb Hf
      have hm := xor_lt8 (a := y % 256) (b := c) (by omega) hcb
      have hx : bits .xor .u8 ((y : Int) % 256) (c : Int) = (((y % 256 ^^^ c : Nat)) : Int) := by
        have := u8_xor_nat (y % 256) c (by omega) hcb
        rw [← this]; rfl
      have hy' : byT y c = dn (y % 256 ^^^ c) ^^^ (y / 256) := rfl
      generalize y % 256 ^^^ c = m at hm hx hy'
      have htab : tabCells[m]? = some (.int .u32 ((dn m : Nat) : Int)) := by
        show (tabAt 256).toArray[m]? = _
        rw [List.getElem?_toArray, tabAt_get 256 m hm, if_pos hm]
      have hdl : dn m < 4294967296 := dn_lt (by omega)
      have hz : bits .xor .u32 ((dn m : Nat) : Int) ((y : Int) / 256) = ((byT y c : Nat) : Int) := by
        rw [hy']
        have := u32_xor_nat (dn m) (y / 256) hdl (by omega)
        rw [← this]; rfl
      have hbl := byT_lt hy hcb
      clear hy'
      generalize dn m = t at htab hz hdl
      generalize byT y c = y' at hz hbl Hf
      go_wp2
      exact ⟨⟨k + 1, y', by omega, hbl, by go_num, rfl, Hf.out⟩, by simp [intOf]; omega⟩
    · go_wp2
      go_ret
      have e : y = fold r bs := by rw [He.out, List.take_of_length_le (by have := hs.length; omega)]
      exact ⟨ret_u32 (by rw [e]), (Below.refl _ _).alloc (Nat.le_refl _) _⟩
theorem not_u32 (s : Nat) (h : s < 4294967296) : bits .xor .u32 IntKind.u32.max (s : Int) = ((neg s : Nat) : Int) := by
  have := u32_xor_nat 4294967295 s (by decide) h
  rw [Nat.xor_comm, ← neg_xor h] at this
  exact this

set_option maxHeartbeats 400000 in
theorem more_any (s : Nat) (h : s < 4294967296) (a : Option Addr) (len cap : Nat) (bs : List Nat) (w : World) (hs : Sl w w.heap.size a len cap bs) :
    Calls Try.prog 81 #[.int .u32 (s : Int), .slice a len cap] w fun e w' => e = .returned (.int .u32 ((more s bs : Nat) : Int)) ∧ Below w.heap.size w w' := by
  have hn := not_u32 s h
  have hnl := neg_lt s
  have Hm : Hid (more s bs = neg (fold (neg s) bs)) := rfl
  generalize neg s = n at hn hnl Hm
  have hfl := fold_lt hnl hs.byte
  have hn2 := not_u32 _ hfl
  generalize hf : fold n bs = f at hn2 hfl Hm
  have Hf := Lib.hid hf
  clear hf
  go_enter Try.func81, Try.ntmps81
  go_wp2_with fail
  refine (table_any _).mono ?_
  rintro e w1 ⟨rfl, hb1⟩
  go_wp2_with fail
  refine (fold_any n hnl a len cap bs _ (hs.below hb1 (Nat.le_refl _) |>.more hb1.size)).mono ?_
  rintro e w2 ⟨rfl, hb2⟩
  rw [Hf.out]
  go_wp2
  go_ret
  exact ⟨ret_u32 (by rw [Hm.out]), hb1.trans (hb2.mono hb1.size)⟩

theorem of_any (a : Option Addr) (len cap : Nat) (bs : List Nat) (w : World) (hs : Sl w w.heap.size a len cap bs) :
    Calls Try.prog 53 #[.slice a len cap] w fun e w' => e = .returned (.int .u32 ((more 0 bs : Nat) : Int)) ∧ Below w.heap.size w w' := by
  go_enter Try.func53, Try.ntmps53
  go_wp2_with fail
  refine (more_any 0 (by decide) a len cap bs _ hs).mono ?_
  rintro e w1 ⟨rfl, hb1⟩
  go_wp2
  go_ret
  exact ⟨rfl, hb1⟩
end Go.Proofs.Ytkklofchgmbdnaa

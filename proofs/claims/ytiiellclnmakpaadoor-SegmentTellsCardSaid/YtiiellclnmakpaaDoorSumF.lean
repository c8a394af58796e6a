/- Contracts of the program's sum: down. Contracts of the program's sum: table. Contracts of the program's sum: fold, More, Of. Contracts of the program's sum for the midst of a statement. -/
import Derived.Test.YtiiellclnmakpaaDoorProg
import Derived.Test.YtiiellclnmakpaaDoorChecked
import Derived.Test.YtiiellclnmakpaaDoorCrc
import Derived.Test.YtiiellclnmakpaaDoorMem
import Derived.Test.YtiiellclnmakpaaDoorInfU
import Derived.WalkKit
import Derived.WalkLawsBesides
import Derived.Laws.BitsAllLaws
import Derived.Lib.Hide
import Derived.IntWalk
import Derived.Below
import Derived.Outline
namespace Go.Proofs.YtiiellclnmakpaaDoor
section
open Go.RowKit
open Crc

/-- One step of the register, in the walk's spelling: the bit that goes out. -/
theorem and_one (r : Nat) (h : r < 4294967296) : bits .and .u32 (r : Int) 1 = ((r % 2 : Nat) : Int) := by
  have := u32_and_nat r 1 h (by decide)
  rw [Nat.and_one_is_mod] at this
  exact this
theorem xor_poly (r : Nat) (h : r < 4294967296) : bits .xor .u32 (r : Int) 3988292384 = ((r ^^^ P : Nat) : Int) :=
  u32_xor_nat r 3988292384 h (by decide)

theorem stp_odd (x : Nat) (h : x < 4294967296) (ho : (bits .and .u32 (x : Int) 1 == 1) = true) :
    bits .xor .u32 ((x : Int) / 2) 3988292384 = ((stp x : Nat) : Int) := by
  rw [and_one x h] at ho
  have h1 : x % 2 = 1 := by have := beq_iff_eq.1 ho; omega
  have e : (x : Int) / 2 = ((x / 2 : Nat) : Int) := by omega
  rw [e, xor_poly _ (by omega)]
  unfold stp; rw [if_pos h1]
theorem stp_even (x : Nat) (h : x < 4294967296) (ho : (bits .and .u32 (x : Int) 1 == 1) = false) :
    (x : Int) / 2 = ((stp x : Nat) : Int) := by
  rw [and_one x h] at ho
  have h1 : ¬ x % 2 = 1 := by have := beq_eq_false_iff_ne.1 ho; omega
  unfold stp; rw [if_neg h1, Nat.xor_zero]; omega
theorem stpN_go (k x : Nat) (hk : k < 8) : stpN (8 - (k + 1)) (stp x) = stpN (8 - k) x := by
  obtain ⟨m, hm⟩ : ∃ m, 8 - k = m + 1 := ⟨7 - k, by omega⟩
  rw [hm, show 8 - (k + 1) = m from by omega]; rfl

set_option maxHeartbeats 400000 in
theorem down_any (r : Nat) (h : r < 4294967296) (w : World) :
    Calls Tryd.prog 85 #[.int .u32 (r : Int)] w fun e w' => e = .returned (.int .u32 ((dn r : Nat) : Int)) ∧ w = w' := by
  go_enter Tryd.func85, Tryd.ntmps85
  go_wp2
  go_loop [0, 3, 4] (fun a _ i => ∃ k x : Nat, k ≤ 8 ∧ x < 4294967296 ∧ a = .int .u32 (x : Int) ∧ i = .int .i64 (k : Int) ∧ stpN (8 - k) x = dn r) (fun _ _ i => 8 - (intOf i).toNat)
  case atStart => exact ⟨0, r, by omega, h, rfl, rfl, rfl⟩
  case round =>
    obtain ⟨k, x, hk, hx, rfl, rfl, hs⟩ := hrel
    have H := Lib.hid hs
    clear hs
    go_wp2
    · have ho : (bits .and .u32 (x : Int) 1 == 1) = true := by assumption
      have hlt : (k : Int) < 8 := by assumption
      exact ⟨⟨k + 1, stp x, by omega, stp_lt hx, val_u32 (stp_odd x hx ho), by go_num, by rw [stpN_go k x (by omega)]; exact H.out⟩, by simp [intOf]; omega⟩
    · have ho : (bits .and .u32 (x : Int) 1 == 1) = false := by assumption
      have hlt : (k : Int) < 8 := by assumption
      exact ⟨⟨k + 1, stp x, by omega, stp_lt hx, val_u32 (stp_even x hx ho), by go_num, by rw [stpN_go k x (by omega)]; exact H.out⟩, by simp [intOf]; omega⟩
    · have hge : (8 : Int) ≤ (k : Int) := by assumption
      have e : x = dn r := by have := H.out; rw [show 8 - k = 0 from by omega] at this; exact this
      go_ret
      exact ⟨ret_u32 (by rw [e]), rfl⟩
end
section
open Go.RowKit
open Crc

def tabAt (k : Nat) : List Value := (List.range 256).map fun i => .int .u32 (((if i < k then dn i else 0 : Nat)) : Int)
def tabZero : Array Value := (tabAt 0).toArray
theorem tabAt_len (k : Nat) : (tabAt k).length = 256 := by simp [tabAt]
theorem tabAt_get (k i : Nat) (h : i < 256) : (tabAt k)[i]? = some (.int .u32 (((if i < k then dn i else 0 : Nat)) : Int)) := by simp [tabAt, h]
theorem tabAt_set (k : Nat) (h : k < 256) : (tabAt k).set k (.int .u32 ((dn k : Nat) : Int)) = tabAt (k + 1) := by
  apply List.ext_getElem?
  intro i
  by_cases hi : i < 256
  · rw [List.getElem?_set, tabAt_get (k + 1) i hi, tabAt_get k i hi, tabAt_len]
    by_cases e : k = i
    · subst e; simp [h]
    · rw [if_neg e]
      by_cases hlt : i < k
      · rw [if_pos hlt, if_pos (by omega)]
      · rw [if_neg hlt, if_neg (by omega)]
  · rw [List.getElem?_eq_none (by rw [List.length_set, tabAt_len]; omega), List.getElem?_eq_none (by rw [tabAt_len]; omega)]
theorem tabAt_one (k : Nat) : ∀ v ∈ tabAt k, v.oneCell' = true := by
  intro v hv
  obtain ⟨i, _, rfl⟩ := List.mem_map.1 hv
  rfl

set_option maxRecDepth 100000 in
set_option maxHeartbeats 400000 in
theorem table_any (w : World) :
    Calls Tryd.prog 70 #[] w fun e w' => e = .returned (.agg (tabAt 256).toArray) ∧ Below w.heap.size w w' := by
  have hz : ∀ w, (zeroValue 111).run Tryd.prog w = .ok (.agg tabZero) w := fun w => by kernel_rfl
  go_enter Tryd.func70, Tryd.ntmps70
  go_wp2_with fail
  go_loopw [2, 3] (fun _ i wr => ∃ k : Nat, k ≤ 256 ∧ i = .int .i64 (k : Int) ∧ wr.heap[w.heap.size + 1]? = some (.cells (tabAt k).toArray 111 (0, 0)) ∧ wr.heap[w.heap.size]? = some (.cells tabZero 111 (0, 0)) ∧ Below w.heap.size w wr)
    (fun _ i _ => 256 - (intOf i).toNat)
  case atStart =>
    refine ⟨0, by omega, rfl, heap_alloc2_new _ _ _, heap_alloc2_old _ _ _, ?_⟩
    exact ((Below.refl _ _).alloc (Nat.le_refl _) _).alloc (by simp) _
  case round =>
    obtain ⟨k, hk, rfl, ht, hr, hb⟩ := hrel
    by_cases hlt : k < 256
    · have hcell : wr.cell? ⟨w.heap.size + 1, k, none⟩ = some (.int .u32 0) := by
        rw [cell_of_row wr _ k _ _ _ ht, List.getElem?_toArray, tabAt_get k k hlt, if_neg (by omega)]; rfl
      have hfr : wr.frozen? ⟨w.heap.size + 1, k, none⟩ = false := frozen_of_row wr _ k _ _ ht
      have Ht := Lib.hid ht
      have Hr := Lib.hid hr
      clear ht hr
      go_wp2_with fail
      refine (down_any k (by omega) _).mono ?_
      rintro e w' ⟨rfl, rfl⟩
      go_wp2
      refine ⟨⟨k + 1, by omega, by go_num, ?_, ?_, ?_⟩, by simp [intOf]; omega⟩
      · have h1 := heap_setCell_same wr (w.heap.size + 1) k _ _ (.int .u32 ((dn k : Nat) : Int)) Ht.out
        rw [List.setIfInBounds_toArray, tabAt_set k hlt] at h1
        exact h1
      · rw [heap_setCell_other _ _ _ _ (by simp)]
        exact Hr.out
      · exact hb.setCell (by simp) _
    · have hk' : k = 256 := by omega
      subst hk'
      have Ht := Lib.hid ht
      have Hr := Lib.hid hr
      clear ht hr
      go_wp2_with (first
        | (refine wpList_load_row (by rfl) 111 (.tmp 1) (by rfl) (w.heap.size + 1) (by rfl) 111 (tabAt 256).toArray (0, 0) _ Ht.out Tryd.underlying111 (by rfl) (by kernel_rfl) ?_)
        | (refine wpList_store_mid (by rfl) 111 (.tmp 0) (.tmp 12) (by rfl) w.heap.size 0 (tabAt 256).toArray (by rfl) (by rfl) (there_of_block Hr.out (by simp [tabZero, tabAt_len])) (by kernel_rfl) (all_oneCell_toArray (tabAt_one 256)) ?_))
      have hw := heap_setCells_whole (cs := tabAt 0) (tabAt 256) (by rw [tabAt_len, tabAt_len]) Hr.out
      refine bodyPost_ret (v := .agg (tabAt 256).toArray) ?_ (by rfl) ⟨rfl, below_setCells' _ (Nat.le_refl _) _ _ hb⟩
      exact results_cell_row (by rfl) _ _ w.heap.size _ (tabAt 256).toArray _ _ (by rfl) hw Tryd.underlying111 (by rfl) (by kernel_rfl)
end
section
open Go.RowKit
open Crc

def tabCells : Array Value := (tabAt 256).toArray

set_option maxRecDepth 100000 in
set_option maxHeartbeats 400000 in
theorem fold_any (r : Nat) (hr : r < 4294967296) (a : Option Addr) (len cap : Nat) (bs : List Nat) (w : World) (hs : Sl w w.heap.size a len cap bs) :
    Calls Tryd.prog 69 #[.agg tabCells, .int .u32 (r : Int), .slice a len cap] w fun e w' => e = .returned (.int .u32 ((fold r bs : Nat) : Int)) ∧ Below w.heap.size w w' := by
  have hle := hs.le
  have hmx := hs.max
  unfold maxLen at hmx
  go_enter Tryd.func69, Tryd.ntmps69
  go_wp2_with fail
  go_loop [1, 8, 11] (fun x _ i => ∃ k y : Nat, k ≤ len ∧ y < 4294967296 ∧ i = .int .i64 (k : Int) ∧ x = .int .u32 (y : Int) ∧ y = fold r (bs.take k)) (fun _ _ i => len - (intOf i).toNat)
  case atStart => exact ⟨0, r, by omega, hr, rfl, rfl, by simp [fold]⟩
  case round =>
    obtain ⟨k, y, hk, hy, rfl, rfl, he⟩ := hrel
    have He := Lib.hid he
    clear he
    by_cases hlt : k < len
    · obtain ⟨b, o, rfl, hb, hc⟩ := hs.at_ (by omega)
      have hck : (w.alloc (.cells tabCells 111)).cell? ⟨b, o + k, none⟩ = some (.int .u8 ((bs.getD k 0 : Nat) : Int)) := by
        rw [World.cell?_alloc_past _ _ _ hb]; exact hc k hlt
      have hcb := hs.lt hlt
      have Hf : Hid (byT y (bs.getD k 0) = fold r (bs.take (k + 1))) := by
        show _ = _
        rw [List.take_succ_eq_append_getElem (by have := hs.length; omega), fold_snoc, ← He.out, List.getD_eq_getElem?_getD, List.getElem?_eq_getElem (by have := hs.length; omega)]
        rfl
      generalize bs.getD k 0 = c at hck hcb Hf
      have hm := xor_lt8 (a := y % 256) (b := c) (by omega) hcb
      have hx : bits .xor .u8 ((y : Int) % 256) (c : Int) = (((y % 256 ^^^ c : Nat)) : Int) := by
        have := u8_xor_nat (y % 256) c (by omega) hcb
        rw [← this]; rfl
      have hy' : byT y c = dn (y % 256 ^^^ c) ^^^ (y / 256) := rfl
      generalize y % 256 ^^^ c = m at hm hx hy'
      have htab : tabCells[m]? = some (.int .u32 ((dn m : Nat) : Int)) := by
        show (tabAt 256).toArray[m]? = _
        rw [List.getElem?_toArray, tabAt_get 256 m hm, if_pos hm]
      have hdl : dn m < 4294967296 := dn_lt (by omega)
      have hz : bits .xor .u32 ((dn m : Nat) : Int) ((y : Int) / 256) = ((byT y c : Nat) : Int) := by
        rw [hy']
        have := u32_xor_nat (dn m) (y / 256) hdl (by omega)
        rw [← this]; rfl
      have hbl := byT_lt hy hcb
      clear hy'
      generalize dn m = t at htab hz hdl
      generalize byT y c = y' at hz hbl Hf
      go_wp2
      exact ⟨⟨k + 1, y', by omega, hbl, by go_num, rfl, Hf.out⟩, by simp [intOf]; omega⟩
    · go_wp2
      go_ret
      have e : y = fold r bs := by rw [He.out, List.take_of_length_le (by have := hs.length; omega)]
      exact ⟨ret_u32 (by rw [e]), (Below.refl _ _).alloc (Nat.le_refl _) _⟩
theorem not_u32 (s : Nat) (h : s < 4294967296) : bits .xor .u32 IntKind.u32.max (s : Int) = ((neg s : Nat) : Int) := by
  have := u32_xor_nat 4294967295 s (by decide) h
  rw [Nat.xor_comm, ← neg_xor h] at this
  exact this

set_option maxHeartbeats 400000 in
theorem more_any (s : Nat) (h : s < 4294967296) (a : Option Addr) (len cap : Nat) (bs : List Nat) (w : World) (hs : Sl w w.heap.size a len cap bs) :
    Calls Tryd.prog 48 #[.int .u32 (s : Int), .slice a len cap] w fun e w' => e = .returned (.int .u32 ((more s bs : Nat) : Int)) ∧ Below w.heap.size w w' := by
  have hn := not_u32 s h
  have hnl := neg_lt s
  have Hm : Hid (more s bs = neg (fold (neg s) bs)) := rfl
  generalize neg s = n at hn hnl Hm
  have hfl := fold_lt hnl hs.byte
  have hn2 := not_u32 _ hfl
  generalize hf : fold n bs = f at hn2 hfl Hm
  have Hf := Lib.hid hf
  clear hf
  go_enter Tryd.func48, Tryd.ntmps48
  go_wp2_with fail
  refine (table_any _).mono ?_
  rintro e w1 ⟨rfl, hb1⟩
  go_wp2_with fail
  refine (fold_any n hnl a len cap bs _ (hs.below hb1 (Nat.le_refl _) |>.more hb1.size)).mono ?_
  rintro e w2 ⟨rfl, hb2⟩
  rw [Hf.out]
  go_wp2
  go_ret
  exact ⟨ret_u32 (by rw [Hm.out]), hb1.trans (hb2.mono hb1.size)⟩

theorem of_any (a : Option Addr) (len cap : Nat) (bs : List Nat) (w : World) (hs : Sl w w.heap.size a len cap bs) :
    Calls Tryd.prog 29 #[.slice a len cap] w fun e w' => e = .returned (.int .u32 ((more 0 bs : Nat) : Int)) ∧ Below w.heap.size w w' := by
  go_enter Tryd.func29, Tryd.ntmps29
  go_wp2_with fail
  refine (more_any 0 (by decide) a len cap bs _ hs).mono ?_
  rintro e w1 ⟨rfl, hb1⟩
  go_wp2
  go_ret
  exact ⟨rfl, hb1⟩
end
section
open Go.RowKit
open Crc

/-- The same contracts, for the midst of a statement: B and the world in which it began are kept. -/
theorem of_from {B : Nat} {w0 : World} {a : Option Addr} {len cap : Nat} {bs : List Nat} (hB : B ≤ w0.heap.size) (hs : Sl w0 B a len cap bs) (w : World) (hb : Below B w0 w) :
    Calls Tryd.prog 29 #[.slice a len cap] w fun e w' => e = .returned (.int .u32 ((more 0 bs : Nat) : Int)) ∧ Below B w0 w' :=
  (of_any a len cap bs w ((hs.below hb (Nat.le_refl _)).more (Nat.le_trans hB hb.size))).mono fun _ _ ⟨he, h2⟩ => ⟨he, hb.trans (h2.mono (Nat.le_trans hB hb.size))⟩
theorem more_from {B : Nat} {w0 : World} {a : Option Addr} {len cap : Nat} {bs : List Nat} (s : Nat) (h : s < 4294967296) (hB : B ≤ w0.heap.size) (hs : Sl w0 B a len cap bs) (w : World) (hb : Below B w0 w) :
    Calls Tryd.prog 48 #[.int .u32 (s : Int), .slice a len cap] w fun e w' => e = .returned (.int .u32 ((more s bs : Nat) : Int)) ∧ Below B w0 w' :=
  (more_any s h a len cap bs w ((hs.below hb (Nat.le_refl _)).more (Nat.le_trans hB hb.size))).mono fun _ _ ⟨he, h2⟩ => ⟨he, hb.trans (h2.mono (Nat.le_trans hB hb.size))⟩
end
end Go.Proofs.YtiiellclnmakpaaDoor

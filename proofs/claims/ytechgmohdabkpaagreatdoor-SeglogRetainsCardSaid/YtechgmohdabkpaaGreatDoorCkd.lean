/- Contracts of the program's sum: down. Contracts of the program's sum: table. Contracts of the program's sum: fold, More, Of. Contracts of the program's sum for the midst of a statement. Contracts of the program's manifest: Right, size, read, write. Contracts of the program's manifest: Put. Contracts of the program's manifest: Get. Contracts of the program's manifest: Load, deleteNext. Contracts of the program's manifest: the calls that Swap does in turn. Contracts of the program's manifest: calls in turn, Swap's deferred call, Swap. Contracts of the program's manifest: Swap. Contracts of the program's manifest: Swap, whole. Names of segments: plain mathematics. What a segment is, as plain mathematics: its head, what Read tells. The log on a disk, as plain mathematics: what Open, Append, Sync and Retain tell and leave, over what a disk is but for memory (St). -/
import Derived.Test.YtechgmohdabkpaaGreatDoorCka
import Derived.Test.YtechgmohdabkpaaGreatDoorCkb
import Derived.Test.YtechgmohdabkpaaGreatDoorCkc
import Derived.Test.YtechgmohdabkpaaGreatDoorProg
import Derived.Test.YtechgmohdabkpaaGreatDoorChecked
import Derived.WalkKit
import Derived.WalkLawsBesides
import Derived.Laws.BitsAllLaws
import Derived.Lib.Hide
import Derived.IntWalk
import Derived.Below
import Derived.Outline
import Derived.Defers
import Derived.Lib.ItoaNum
import Derived.Lib.ItoaMem
import Derived.Lib.ParseIntB
import Derived.Lib.ParseIntBCases
import Derived.Lib.ParseIntBTie
import Derived.Lib.Repeat
import Derived.Lib.Strings
namespace Go.Proofs.YtechgmohdabkpaaGreatDoor
section
set_option linter.unusedSimpArgs false
set_option linter.unusedVariables false
section
open Go.RowKit
open Crc

/-- One step of the register, in the walk's spelling: the bit that goes out. -/
theorem and_one (r : Nat) (h : r < 4294967296) : bits .and .u32 (r : Int) 1 = ((r % 2 : Nat) : Int) := by
  have := u32_and_nat r 1 h (by decide)
  rw [Nat.and_one_is_mod] at this
  exact this
theorem xor_poly (r : Nat) (h : r < 4294967296) : bits .xor .u32 (r : Int) 3988292384 = ((r ^^^ P : Nat) : Int) :=
  u32_xor_nat r 3988292384 h (by decide)

theorem stp_odd (x : Nat) (h : x < 4294967296) (ho : (bits .and .u32 (x : Int) 1 == 1) = true) :
    bits .xor .u32 ((x : Int) / 2) 3988292384 = ((stp x : Nat) : Int) := by
  rw [and_one x h] at ho
  have h1 : x % 2 = 1 := by have := beq_iff_eq.1 ho; omega
  have e : (x : Int) / 2 = ((x / 2 : Nat) : Int) := by omega
  rw [e, xor_poly _ (by omega)]
  unfold stp; rw [if_pos h1]
theorem stp_even (x : Nat) (h : x < 4294967296) (ho : (bits .and .u32 (x : Int) 1 == 1) = false) :
    (x : Int) / 2 = ((stp x : Nat) : Int) := by
  rw [and_one x h] at ho
  have h1 : ¬ x % 2 = 1 := by have := beq_eq_false_iff_ne.1 ho; omega
  unfold stp; rw [if_neg h1, Nat.xor_zero]; omega
theorem stpN_go (k x : Nat) (hk : k < 8) : stpN (8 - (k + 1)) (stp x) = stpN (8 - k) x := by
  obtain ⟨m, hm⟩ : ∃ m, 8 - k = m + 1 := ⟨7 - k, by omega⟩
  rw [hm, show 8 - (k + 1) = m from by omega]; rfl

set_option maxHeartbeats 400000 in
theorem down_any (r : Nat) (h : r < 4294967296) (w : World) :
    Calls Tryz.prog 222 #[.int .u32 (r : Int)] w fun e w' => e = .returned (.int .u32 ((dn r : Nat) : Int)) ∧ w = w' := by
  go_enter Tryz.func222, Tryz.ntmps222
  go_wp2
  go_loop [0, 3, 4] (fun a _ i => ∃ k x : Nat, k ≤ 8 ∧ x < 4294967296 ∧ a = .int .u32 (x : Int) ∧ i = .int .i64 (k : Int) ∧ stpN (8 - k) x = dn r) (fun _ _ i => 8 - (intOf i).toNat)
  case atStart => exact ⟨0, r, by omega, h, rfl, rfl, rfl⟩
  case round =>
    obtain ⟨k, x, hk, hx, rfl, rfl, hs⟩ := hrel
    have H := Lib.hid hs
    clear hs
    go_wp2
    · have ho : (bits .and .u32 (x : Int) 1 == 1) = true := by assumption
      have hlt : (k : Int) < 8 := by assumption
      exact ⟨⟨k + 1, stp x, by omega, stp_lt hx, val_u32 (stp_odd x hx ho), by go_num, by rw [stpN_go k x (by omega)]; exact H.out⟩, by simp [intOf]; omega⟩
    · have ho : (bits .and .u32 (x : Int) 1 == 1) = false := by assumption
      have hlt : (k : Int) < 8 := by assumption
      exact ⟨⟨k + 1, stp x, by omega, stp_lt hx, val_u32 (stp_even x hx ho), by go_num, by rw [stpN_go k x (by omega)]; exact H.out⟩, by simp [intOf]; omega⟩
    · have hge : (8 : Int) ≤ (k : Int) := by assumption
      have e : x = dn r := by have := H.out; rw [show 8 - k = 0 from by omega] at this; exact this
      go_ret
      exact ⟨ret_u32 (by rw [e]), rfl⟩
end
section
open Go.RowKit
open Crc

def tabAt (k : Nat) : List Value := (List.range 256).map fun i => .int .u32 (((if i < k then dn i else 0 : Nat)) : Int)
def tabZero : Array Value := (tabAt 0).toArray
theorem tabAt_len (k : Nat) : (tabAt k).length = 256 := by simp [tabAt]
theorem tabAt_get (k i : Nat) (h : i < 256) : (tabAt k)[i]? = some (.int .u32 (((if i < k then dn i else 0 : Nat)) : Int)) := by simp [tabAt, h]
theorem tabAt_set (k : Nat) (h : k < 256) : (tabAt k).set k (.int .u32 ((dn k : Nat) : Int)) = tabAt (k + 1) := by
  apply List.ext_getElem?
  intro i
  by_cases hi : i < 256
  · rw [List.getElem?_set, tabAt_get (k + 1) i hi, tabAt_get k i hi, tabAt_len]
    by_cases e : k = i
    · subst e; simp [h]
    · rw [if_neg e]
      by_cases hlt : i < k
      · rw [if_pos hlt, if_pos (by omega)]
      · rw [if_neg hlt, if_neg (by omega)]
  · rw [List.getElem?_eq_none (by rw [List.length_set, tabAt_len]; omega), List.getElem?_eq_none (by rw [tabAt_len]; omega)]
theorem tabAt_one (k : Nat) : ∀ v ∈ tabAt k, v.oneCell' = true := by
  intro v hv
  obtain ⟨i, _, rfl⟩ := List.mem_map.1 hv
  rfl

set_option maxRecDepth 100000 in
set_option maxHeartbeats 400000 in
theorem table_any (w : World) :
    Calls Tryz.prog 205 #[] w fun e w' => e = .returned (.agg (tabAt 256).toArray) ∧ Below w.heap.size w w' := by
  have hz : ∀ w, (zeroValue 203).run Tryz.prog w = .ok (.agg tabZero) w := fun w => by kernel_rfl
  go_enter Tryz.func205, Tryz.ntmps205
  go_wp2_with fail
  go_loopw [2, 3] (fun _ i wr => ∃ k : Nat, k ≤ 256 ∧ i = .int .i64 (k : Int) ∧ wr.heap[w.heap.size + 1]? = some (.cells (tabAt k).toArray 203 (0, 0)) ∧ wr.heap[w.heap.size]? = some (.cells tabZero 203 (0, 0)) ∧ Below w.heap.size w wr)
    (fun _ i _ => 256 - (intOf i).toNat)
  case atStart =>
    refine ⟨0, by omega, rfl, heap_alloc2_new _ _ _, heap_alloc2_old _ _ _, ?_⟩
    exact ((Below.refl _ _).alloc (Nat.le_refl _) _).alloc (by simp) _
  case round =>
    obtain ⟨k, hk, rfl, ht, hr, hb⟩ := hrel
    by_cases hlt : k < 256
    · have hcell : wr.cell? ⟨w.heap.size + 1, k, none⟩ = some (.int .u32 0) := by
        rw [cell_of_row wr _ k _ _ _ ht, List.getElem?_toArray, tabAt_get k k hlt, if_neg (by omega)]; rfl
      have hfr : wr.frozen? ⟨w.heap.size + 1, k, none⟩ = false := frozen_of_row wr _ k _ _ ht
      have Ht := Lib.hid ht
      have Hr := Lib.hid hr
      clear ht hr
      go_wp2_with fail
      refine (down_any k (by omega) _).mono ?_
      rintro e w' ⟨rfl, rfl⟩
      go_wp2
      refine ⟨⟨k + 1, by omega, by go_num, ?_, ?_, ?_⟩, by simp [intOf]; omega⟩
      · have h1 := heap_setCell_same wr (w.heap.size + 1) k _ _ (.int .u32 ((dn k : Nat) : Int)) Ht.out
        rw [List.setIfInBounds_toArray, tabAt_set k hlt] at h1
        exact h1
      · rw [heap_setCell_other _ _ _ _ (by simp)]
        exact Hr.out
      · exact hb.setCell (by simp) _
    · have hk' : k = 256 := by omega
      subst hk'
      have Ht := Lib.hid ht
      have Hr := Lib.hid hr
      clear ht hr
      go_wp2_with (first
        | (refine wpList_load_row (by rfl) 203 (.tmp 1) (by rfl) (w.heap.size + 1) (by rfl) 203 (tabAt 256).toArray (0, 0) _ Ht.out Tryz.underlying203 (by rfl) (by kernel_rfl) ?_)
        | (refine wpList_store_mid (by rfl) 203 (.tmp 0) (.tmp 12) (by rfl) w.heap.size 0 (tabAt 256).toArray (by rfl) (by rfl) (there_of_block Hr.out (by simp [tabZero, tabAt_len])) (by kernel_rfl) (all_oneCell_toArray (tabAt_one 256)) ?_))
      have hw := heap_setCells_whole (cs := tabAt 0) (tabAt 256) (by rw [tabAt_len, tabAt_len]) Hr.out
      refine bodyPost_ret (v := .agg (tabAt 256).toArray) ?_ (by rfl) ⟨rfl, below_setCells' _ (Nat.le_refl _) _ _ hb⟩
      exact results_cell_row (by rfl) _ _ w.heap.size _ (tabAt 256).toArray _ _ (by rfl) hw Tryz.underlying203 (by rfl) (by kernel_rfl)
end
section
open Go.RowKit
open Crc

def tabCells : Array Value := (tabAt 256).toArray

set_option maxRecDepth 100000 in
set_option maxHeartbeats 400000 in
theorem fold_any (r : Nat) (hr : r < 4294967296) (a : Option Addr) (len cap : Nat) (bs : List Nat) (w : World) (hs : Sl w w.heap.size a len cap bs) :
    Calls Tryz.prog 204 #[.agg tabCells, .int .u32 (r : Int), .slice a len cap] w fun e w' => e = .returned (.int .u32 ((fold r bs : Nat) : Int)) ∧ Below w.heap.size w w' := by
  have hle := hs.le
  have hmx := hs.max
  unfold maxLen at hmx
  go_enter Tryz.func204, Tryz.ntmps204
  go_wp2_with fail
  go_loop [1, 8, 11] (fun x _ i => ∃ k y : Nat, k ≤ len ∧ y < 4294967296 ∧ i = .int .i64 (k : Int) ∧ x = .int .u32 (y : Int) ∧ y = fold r (bs.take k)) (fun _ _ i => len - (intOf i).toNat)
  case atStart => exact ⟨0, r, by omega, hr, rfl, rfl, by simp [fold]⟩
  case round =>
    obtain ⟨k, y, hk, hy, rfl, rfl, he⟩ := hrel
    have He := Lib.hid he
    clear he
    by_cases hlt : k < len
    · obtain ⟨b, o, rfl, hb, hc⟩ := hs.at_ (by omega)
      have hck : (w.alloc (.cells tabCells 203)).cell? ⟨b, o + k, none⟩ = some (.int .u8 ((bs.getD k 0 : Nat) : Int)) := by
        rw [World.cell?_alloc_past _ _ _ hb]; exact hc k hlt
      have hcb := hs.lt hlt
      have Hf : Hid (byT y (bs.getD k 0) = fold r (bs.take (k + 1))) := by
        show _ = _
        rw [List.take_succ_eq_append_getElem (by have := hs.length; omega), fold_snoc, ← He.out, List.getD_eq_getElem?_getD, List.getElem?_eq_getElem (by have := hs.length; omega)]
        rfl
      generalize bs.getD k 0 = c at hck hcb Hf
      have hm := xor_lt8 (a := y % 256) (b := c) (by omega) hcb
      have hx : bits .xor .u8 ((y : Int) % 256) (c : Int) = (((y % 256 ^^^ c : Nat)) : Int) := by
        have := u8_xor_nat (y % 256) c (by omega) hcb
        rw [← this]; rfl
      have hy' : byT y c = dn (y % 256 ^^^ c) ^^^ (y / 256) := rfl
      generalize y % 256 ^^^ c = m at hm hx hy'
      have htab : tabCells[m]? = some (.int .u32 ((dn m : Nat) : Int)) := by
        show (tabAt 256).toArray[m]? = _
        rw [List.getElem?_toArray, tabAt_get 256 m hm, if_pos hm]
      have hdl : dn m < 4294967296 := dn_lt (by omega)
      have hz : bits .xor .u32 ((dn m : Nat) : Int) ((y : Int) / 256) = ((byT y c : Nat) : Int) := by
        rw [hy']
        have := u32_xor_nat (dn m) (y / 256) hdl (by omega)
        rw [← this]; rfl
      have hbl := byT_lt hy hcb
      clear hy'
      generalize dn m = t at htab hz hdl
      generalize byT y c = y' at hz hbl Hf
      go_wp2
      exact ⟨⟨k + 1, y', by omega, hbl, by go_num, rfl, Hf.out⟩, by simp [intOf]; omega⟩
    · go_wp2
      go_ret
      have e : y = fold r bs := by rw [He.out, List.take_of_length_le (by have := hs.length; omega)]
      exact ⟨ret_u32 (by rw [e]), (Below.refl _ _).alloc (Nat.le_refl _) _⟩
theorem not_u32 (s : Nat) (h : s < 4294967296) : bits .xor .u32 IntKind.u32.max (s : Int) = ((neg s : Nat) : Int) := by
  have := u32_xor_nat 4294967295 s (by decide) h
  rw [Nat.xor_comm, ← neg_xor h] at this
  exact this

set_option maxHeartbeats 400000 in
theorem more_any (s : Nat) (h : s < 4294967296) (a : Option Addr) (len cap : Nat) (bs : List Nat) (w : World) (hs : Sl w w.heap.size a len cap bs) :
    Calls Tryz.prog 172 #[.int .u32 (s : Int), .slice a len cap] w fun e w' => e = .returned (.int .u32 ((more s bs : Nat) : Int)) ∧ Below w.heap.size w w' := by
  have hn := not_u32 s h
  have hnl := neg_lt s
  have Hm : Hid (more s bs = neg (fold (neg s) bs)) := rfl
  generalize neg s = n at hn hnl Hm
  have hfl := fold_lt hnl hs.byte
  have hn2 := not_u32 _ hfl
  generalize hf : fold n bs = f at hn2 hfl Hm
  have Hf := Lib.hid hf
  clear hf
  go_enter Tryz.func172, Tryz.ntmps172
  go_wp2_with fail
  refine (table_any _).mono ?_
  rintro e w1 ⟨rfl, hb1⟩
  go_wp2_with fail
  refine (fold_any n hnl a len cap bs _ (hs.below hb1 (Nat.le_refl _) |>.more hb1.size)).mono ?_
  rintro e w2 ⟨rfl, hb2⟩
  rw [Hf.out]
  go_wp2
  go_ret
  exact ⟨ret_u32 (by rw [Hm.out]), hb1.trans (hb2.mono hb1.size)⟩

theorem of_any (a : Option Addr) (len cap : Nat) (bs : List Nat) (w : World) (hs : Sl w w.heap.size a len cap bs) :
    Calls Tryz.prog 124 #[.slice a len cap] w fun e w' => e = .returned (.int .u32 ((more 0 bs : Nat) : Int)) ∧ Below w.heap.size w w' := by
  go_enter Tryz.func124, Tryz.ntmps124
  go_wp2_with fail
  refine (more_any 0 (by decide) a len cap bs _ hs).mono ?_
  rintro e w1 ⟨rfl, hb1⟩
  go_wp2
  go_ret
  exact ⟨rfl, hb1⟩
end
section
open Go.RowKit
open Crc

/-- The same contracts, for the midst of a statement: B and the world in which it began are kept. -/
theorem of_from {B : Nat} {w0 : World} {a : Option Addr} {len cap : Nat} {bs : List Nat} (hB : B ≤ w0.heap.size) (hs : Sl w0 B a len cap bs) (w : World) (hb : Below B w0 w) :
    Calls Tryz.prog 124 #[.slice a len cap] w fun e w' => e = .returned (.int .u32 ((more 0 bs : Nat) : Int)) ∧ Below B w0 w' :=
  (of_any a len cap bs w ((hs.below hb (Nat.le_refl _)).more (Nat.le_trans hB hb.size))).mono fun _ _ ⟨he, h2⟩ => ⟨he, hb.trans (h2.mono (Nat.le_trans hB hb.size))⟩
theorem more_from {B : Nat} {w0 : World} {a : Option Addr} {len cap : Nat} {bs : List Nat} (s : Nat) (h : s < 4294967296) (hB : B ≤ w0.heap.size) (hs : Sl w0 B a len cap bs) (w : World) (hb : Below B w0 w) :
    Calls Tryz.prog 172 #[.int .u32 (s : Int), .slice a len cap] w fun e w' => e = .returned (.int .u32 ((more s bs : Nat) : Int)) ∧ Below B w0 w' :=
  (more_any s h a len cap bs w ((hs.below hb (Nat.le_refl _)).more (Nat.le_trans hB hb.size))).mono fun _ _ ⟨he, h2⟩ => ⟨he, hb.trans (h2.mono (Nat.le_trans hB hb.size))⟩
end
end
section
set_option linter.unusedVariables false
set_option linter.unusedSimpArgs false
section
open Go.RowKit Go.Sort
open Crc Frm
attribute [local go_sem] Oper.semAt_some

/-- Each stands above the one ahead, and none above 2^30. -/
def upL (a : Int) : List Int → Bool
  | [] => true
  | n :: l => decide (a < n) && (decide (n ≤ 1073741824) && upL n l)
/-- May a list be so? -/
def mOk (l : List Int) : Bool := decide (1 ≤ l.length) && (decide (l.length ≤ 40) && upL (-1) l)
theorem upL_no {z x : Int} {l : List Int} (h : ¬ (z < x ∧ x ≤ 1073741824)) : upL z (x :: l) = false := by
  simp only [upL]
  by_cases h1 : z < x
  · have h2 : ¬ x ≤ 1073741824 := fun h2 => h ⟨h1, h2⟩
    simp [h2]
  · simp [h1]
theorem upL_yes {z x : Int} {l : List Int} (h1 : z < x) (h2 : x ≤ 1073741824) : upL z (x :: l) = upL x l := by simp [upL, h1, h2]

set_option linter.unusedSimpArgs false in
set_option maxRecDepth 100000 in
set_option maxHeartbeats 1600000 in
theorem mright_any (l : List Int) (a : Option Addr) (n c : Nat) (w : World) (hr : Row w w.heap.size a n c 1 (intsC l)) (hn : l.length = n) :
    Calls Tryz.prog 129 #[.slice a n c] w fun e w' => e = .returned (.bool (mOk l)) ∧ w = w' := by
  have hcm := hr.max
  have hle := hr.le
  unfold maxLen at hcm
  have HL : Hid (mOk l = (decide (1 ≤ n) && (decide (n ≤ 40) && upL (-1) l))) := by show _ = _; unfold mOk; rw [hn]
  have HR := Lib.hid (And.intro hr hn)
  clear hr hn
  go_enter Tryz.func129, Tryz.ntmps129
  by_cases h1 : 1 ≤ n
  · by_cases h2 : n ≤ 40
    · go_wp2_with fail
      go_loopw [3, 5, 16] (fun z _ i wr => ∃ (k : Nat) (x : Int), k ≤ n ∧ i = .int .i64 (k : Int) ∧ z = .int .i64 x ∧ upL (-1) l = upL x (l.drop k) ∧ wr = w) (fun _ _ i _ => n - (intOf i).toNat)
      case atStart => exact ⟨0, -1, Nat.zero_le _, rfl, rfl, rfl, rfl⟩
      case round =>
        obtain ⟨k, z, hk, rfl, rfl, hu, rfl⟩ := hrel
        by_cases hlt : k < n
        · obtain ⟨b, o, rfl, hb, hc⟩ := HR.out.1.at_ (by omega)
          have c0 := hc k (by omega)
          simp only [intsC, Nat.mul_one] at c0
          have hlk : k < l.length := by have := HR.out.2; omega
          have hd : l.drop k = l.getD k 0 :: l.drop (k + 1) := by rw [List.drop_eq_getElem_cons hlk, List.getD_eq_getElem?_getD, List.getElem?_eq_getElem hlk]; rfl
          rw [hd] at hu
          generalize l.getD k 0 = x at *
          have HU := Lib.hid hu
          clear hu hd hc hlk
          by_cases hx1 : z < x
          · by_cases hx2 : x ≤ 1073741824
            · go_wp2
              go_roundw
              case rel => exact ⟨k + 1, x, by omega, by go_num, rfl, HU.out.trans (upL_yes hx1 hx2), by trivial⟩
              case measure => simp [intOf]; omega
            · go_wp2
              go_ret
              exact ⟨ret_bool (by rw [HL.out, HU.out, upL_no (by omega)]; simp), rfl⟩
          · go_wp2
            go_ret
            exact ⟨ret_bool (by rw [HL.out, HU.out, upL_no (by omega)]; simp), rfl⟩
        · have HU := Lib.hid hu
          clear hu
          go_wp2
          go_ret
          refine ⟨ret_bool ?_, rfl⟩
          rw [HL.out, HU.out, List.drop_of_length_le (by have := HR.out.2; omega)]
          simp [upL, h1, h2]
    · go_wp2
      go_ret
      exact ⟨ret_bool (by rw [HL.out]; simp [h2]), rfl⟩
  · go_wp2
    go_ret
    exact ⟨ret_bool (by rw [HL.out]; simp [h1]), rfl⟩

theorem msize_any (n : Nat) (hn : n ≤ 1000000) (w : World) :
    Calls Tryz.prog 173 #[.int .i64 (n : Int)] w fun e w' => e = .returned (.int .i64 ((5 + 4 * n : Nat) : Int)) ∧ w = w' := by
  have w1 : IntKind.i64.wrap ((n : Int) * 4) = (n : Int) * 4 := by rw [IntKind.wrap_i64]; omega
  have w2 : IntKind.i64.wrap (1 + (n : Int) * 4) = 1 + (n : Int) * 4 := by rw [IntKind.wrap_i64]; omega
  have w3 : IntKind.i64.wrap (1 + (n : Int) * 4 + 4) = 1 + (n : Int) * 4 + 4 := by rw [IntKind.wrap_i64]; omega
  go_enter Tryz.func173, Tryz.ntmps173
  go_wp2
  go_ret
  exact ⟨ret_i64 (by omega), rfl⟩

theorem or_sum (k a b : Nat) (A B C : Nat) (hA : A = 2 ^ k * a) (hB : B = b) (hb : b < 2 ^ k) (hA2 : A < 4294967296) (hB2 : B < 4294967296) (hC : C = A + B) : bits .or .u32 (A : Int) (B : Int) = (C : Int) := by
  subst hB hC
  rw [u32_or_nat A B hA2 hB2, hA, ← Nat.two_pow_add_eq_or_of_lt hb a]
theorem be4 (y : Nat) : be 4 y = [y / 16777216 % 256, y / 65536 % 256, y / 256 % 256, y % 256] := by simp [be]
set_option linter.unusedSimpArgs false in
set_option maxRecDepth 100000 in
set_option maxHeartbeats 1600000 in
theorem mwrite_any (base : Nat) (v : Value) (bs : List Nat) (y : Nat) (w : World) (hown : OwnB w base 5 v bs) (hbase : base ≤ w.heap.size) (hy : y < 4294967296) (hl : bs.length ≤ 1000000) :
    Calls Tryz.prog 174 #[v, .int .u32 (y : Int)] w fun e w' => ∃ v', e = .returned v' ∧ OwnB w' base 5 v' (bs ++ be 4 y) ∧ w.grownBy w' v.ownBlock ∧ (v'.ownBlock = v.ownBlock ∨ ∃ b, v'.ownBlock = some b ∧ w.heap.size ≤ b) := by
  have y0 : (y : Int) / 16777216 = ((y / 16777216 % 256 : Nat) : Int) := by omega
  have y1 : (y : Int) / 65536 % 256 = ((y / 65536 % 256 : Nat) : Int) := by omega
  have y2 : (y : Int) / 256 % 256 = ((y / 256 % 256 : Nat) : Int) := by omega
  have y3 : (y : Int) % 256 = ((y % 256 : Nat) : Int) := by omega
  rw [be4]
  have l0 : y / 16777216 % 256 < 256 := Nat.mod_lt _ (by decide)
  have l1 : y / 65536 % 256 < 256 := Nat.mod_lt _ (by decide)
  have l2 : y / 256 % 256 < 256 := Nat.mod_lt _ (by decide)
  have l3 : y % 256 < 256 := Nat.mod_lt _ (by decide)
  generalize y / 16777216 % 256 = b0 at *
  generalize y / 65536 % 256 = b1 at *
  generalize y / 256 % 256 = b2 at *
  generalize y % 256 = b3 at *
  have HS := Lib.hid (lit_sl w [b0, b1, b2, b3] (by intro c hc; simp at hc; omega) (by simp [maxLen]))
  have HO := Lib.hid hown
  clear hown
  go_enter Tryz.func174, Tryz.ntmps174
  go_wp2_with (first
    | (at_builtin; refine wpList_append_sl rfl (.tmp 5) (.tmp 17) 38 rfl base _ Tryz.underlying38 info_u8 v bs rfl (HO.out.alloc _) _ (some ⟨w.heap.size, 0, none⟩) 4 4 [b0, b1, b2, b3] rfl HS.out (by omega) (by simp; omega) ?_; intro v1 w3 hown1 hg1 hat1)
    | fail)
  have H3 := Lib.hid (And.intro hown1 (And.intro hg1 hat1))
  clear hown1 hg1 hat1
  go_wp2
  go_ret
  refine ⟨v1, rfl, H3.out.1, ?_, ?_⟩
  · have := (World.grownBy_alloc w (.cells #[.int .u8 (b0 : Int), .int .u8 (b1 : Int), .int .u8 (b2 : Int), .int .u8 (b3 : Int)] 5) v.ownBlock).andThen H3.out.2.1 (fun q hq => .inr hq)
    exact this
  · rcases H3.out.2.2 with h | h
    · exact .inl h
    · exact .inr ⟨_, h, by simp⟩

set_option linter.unusedSimpArgs false in
set_option maxRecDepth 100000 in
set_option maxHeartbeats 1600000 in
theorem mread_any (a : Option Addr) (len cap : Nat) (bs : List Nat) (w : World) (hs : Sl w w.heap.size a len cap bs) (h4 : 4 ≤ len) :
    Calls Tryz.prog 187 #[.slice a len cap] w fun e w' => e = .returned (.int .u32 ((val (bs.take 4) : Nat) : Int)) ∧ Below w.heap.size w w' := by
  obtain ⟨b, o, rfl, hb, hc⟩ := hs.at_ (by omega)
  have hbl := hs.length
  have c0 := hc 0 (by omega)
  have c1 := hc 1 (by omega)
  have c2 := hc 2 (by omega)
  have c3 := hc 3 (by omega)
  have l0 : bs.getD 0 0 < 256 := by rw [List.getD_eq_getElem?_getD, List.getElem?_eq_getElem (by omega)]; exact hs.byte _ (List.getElem_mem _)
  have l1 : bs.getD 1 0 < 256 := by rw [List.getD_eq_getElem?_getD, List.getElem?_eq_getElem (by omega)]; exact hs.byte _ (List.getElem_mem _)
  have l2 : bs.getD 2 0 < 256 := by rw [List.getD_eq_getElem?_getD, List.getElem?_eq_getElem (by omega)]; exact hs.byte _ (List.getElem_mem _)
  have l3 : bs.getD 3 0 < 256 := by rw [List.getD_eq_getElem?_getD, List.getElem?_eq_getElem (by omega)]; exact hs.byte _ (List.getElem_mem _)
  have hv : Hid (val (bs.take 4) = bs.getD 0 0 * 16777216 + bs.getD 1 0 * 65536 + bs.getD 2 0 * 256 + bs.getD 3 0) := by
    show _ = _
    match bs, (show 4 ≤ bs.length by omega) with
    | x0 :: x1 :: x2 :: x3 :: t, _ => simp [val]; omega
  generalize bs.getD 0 0 = b0 at *
  generalize bs.getD 1 0 = b1 at *
  generalize bs.getD 2 0 = b2 at *
  generalize bs.getD 3 0 = b3 at *
  have n0 : 0 < len := by omega
  have n1 : (1 : Int) < (len : Int) := by omega
  have n2 : (2 : Int) < (len : Int) := by omega
  have n3 : (3 : Int) < (len : Int) := by omega
  have x0 : IntKind.u32.wrap (b0 : Int) = (b0 : Int) := by rw [IntKind.wrap_u32]; omega
  have x1 : IntKind.u32.wrap (b1 : Int) = (b1 : Int) := by rw [IntKind.wrap_u32]; omega
  have x2 : IntKind.u32.wrap (b2 : Int) = (b2 : Int) := by rw [IntKind.wrap_u32]; omega
  have x3 : IntKind.u32.wrap (b3 : Int) = (b3 : Int) := by rw [IntKind.wrap_u32]; omega
  obtain ⟨s0, hs0⟩ : ∃ s0, s0 = b0 * 16777216 := ⟨_, rfl⟩
  obtain ⟨s1, hs1⟩ : ∃ s1, s1 = b1 * 65536 := ⟨_, rfl⟩
  obtain ⟨s2, hs2⟩ : ∃ s2, s2 = b2 * 256 := ⟨_, rfl⟩
  obtain ⟨t1, ht1⟩ : ∃ t1, t1 = s0 + s1 := ⟨_, rfl⟩
  obtain ⟨t2, ht2⟩ : ∃ t2, t2 = t1 + s2 := ⟨_, rfl⟩
  obtain ⟨t3, ht3⟩ : ∃ t3, t3 = t2 + b3 := ⟨_, rfl⟩
  have y0 : IntKind.u32.wrap ((b0 : Int) * 16777216) = (s0 : Int) := by rw [IntKind.wrap_u32]; omega
  have y1 : IntKind.u32.wrap ((b1 : Int) * 65536) = (s1 : Int) := by rw [IntKind.wrap_u32]; omega
  have y2 : IntKind.u32.wrap ((b2 : Int) * 256) = (s2 : Int) := by rw [IntKind.wrap_u32]; omega
  have o1 : bits .or .u32 (s0 : Int) (s1 : Int) = (t1 : Int) := or_sum 24 b0 s1 s0 s1 t1 (by omega) rfl (by omega) (by omega) (by omega) ht1
  have o2 : bits .or .u32 (t1 : Int) (s2 : Int) = (t2 : Int) := or_sum 16 (b0 * 256 + b1) s2 t1 s2 t2 (by omega) rfl (by omega) (by omega) (by omega) ht2
  have o3 : bits .or .u32 (t2 : Int) (b3 : Int) = (t3 : Int) := or_sum 8 (b0 * 65536 + b1 * 256 + b2) b3 t2 b3 t3 (by omega) rfl (by omega) (by omega) (by omega) ht3
  have hvt : Hid (t3 = val (bs.take 4)) := by show _ = _; have := hv.out; omega
  clear hs0 hs1 hs2 ht1 ht2 ht3 l0 l1 l2 l3 h4
  clear hc hs hbl
  go_enter Tryz.func187, Tryz.ntmps187
  go_wp2_with fail
  refine wp_region_held_drew (S := fun x => x.cell? ⟨b, o, none⟩ = some (.int .u8 (b0 : Int)) ∧ x.cell? ⟨b, o + 1, none⟩ = some (.int .u8 (b1 : Int)) ∧ x.cell? ⟨b, o + 2, none⟩ = some (.int .u8 (b2 : Int)) ∧ x.cell? ⟨b, o + 3, none⟩ = some (.int .u8 (b3 : Int))) (by kernel_rfl) ⟨c0, c1, c2, c3⟩ (fun hHeld => ?_)
  refine wpAnyH_take (i := 0) (v := ?_) rfl (by kernel_rfl) (by kernel_rfl) (by kernel_rfl) (fun _ _ _ h => h) (Or.inl ⟨by rfl, ?_⟩) (by assumption) ?_
  rotate_left
  · intro w hSw
    (try dsimp only at hSw)
    go_simp
    all_goals with_reducible rfl
  try simp only [Act.put, List.getElem_toArray, List.getElem_cons_succ, List.getElem_cons_zero, List.setIfInBounds_toArray, List.set_cons_zero, List.set_cons_succ]
  refine wpAnyH_take (i := 1) (v := ?_) rfl (by kernel_rfl) (by kernel_rfl) (by kernel_rfl) (fun _ _ _ h => h) (Or.inl ⟨by rfl, ?_⟩) (by assumption) ?_
  rotate_left
  · intro w hSw
    (try dsimp only at hSw)
    go_simp
    all_goals with_reducible rfl
  try simp only [Act.put, List.getElem_toArray, List.getElem_cons_succ, List.getElem_cons_zero, List.setIfInBounds_toArray, List.set_cons_zero, List.set_cons_succ]
  refine wpAnyH_take (i := 2) (v := ?_) rfl (by kernel_rfl) (by kernel_rfl) (by kernel_rfl) (fun _ _ _ h => h) (Or.inl ⟨by rfl, ?_⟩) (by assumption) ?_
  rotate_left
  · intro w hSw
    (try dsimp only at hSw)
    go_simp
    all_goals with_reducible rfl
  try simp only [Act.put, List.getElem_toArray, List.getElem_cons_succ, List.getElem_cons_zero, List.setIfInBounds_toArray, List.set_cons_zero, List.set_cons_succ]
  refine wpAnyH_take (i := 3) (v := ?_) rfl (by kernel_rfl) (by kernel_rfl) (by kernel_rfl) (fun _ _ _ h => h) (Or.inl ⟨by rfl, ?_⟩) (by assumption) ?_
  rotate_left
  · intro w hSw
    (try dsimp only at hSw)
    go_simp
    all_goals with_reducible rfl
  try simp only [Act.put, List.getElem_toArray, List.getElem_cons_succ, List.getElem_cons_zero, List.setIfInBounds_toArray, List.set_cons_zero, List.set_cons_succ]
  refine wpAnyH_take (i := 4) (v := ?_) rfl (by kernel_rfl) (by kernel_rfl) (by kernel_rfl) (fun _ _ _ h => h) (Or.inl ⟨by rfl, ?_⟩) (by assumption) ?_
  rotate_left
  · intro w hSw
    (try dsimp only at hSw)
    go_simp
    all_goals with_reducible rfl
  try simp only [Act.put, List.getElem_toArray, List.getElem_cons_succ, List.getElem_cons_zero, List.setIfInBounds_toArray, List.set_cons_zero, List.set_cons_succ]
  refine wpAnyH_take (i := 5) (v := ?_) rfl (by kernel_rfl) (by kernel_rfl) (by kernel_rfl) (fun _ _ _ h => h) (Or.inl ⟨by rfl, ?_⟩) (by assumption) ?_
  rotate_left
  · intro w hSw
    (try dsimp only at hSw)
    go_simp
    all_goals with_reducible rfl
  try simp only [Act.put, List.getElem_toArray, List.getElem_cons_succ, List.getElem_cons_zero, List.setIfInBounds_toArray, List.set_cons_zero, List.set_cons_succ]
  refine wpAnyH_take (i := 6) (v := ?_) rfl (by kernel_rfl) (by kernel_rfl) (by kernel_rfl) (fun _ _ _ h => h) (Or.inl ⟨by rfl, ?_⟩) (by assumption) ?_
  rotate_left
  · intro w hSw
    (try dsimp only at hSw)
    go_simp
    all_goals with_reducible rfl
  try simp only [Act.put, List.getElem_toArray, List.getElem_cons_succ, List.getElem_cons_zero, List.setIfInBounds_toArray, List.set_cons_zero, List.set_cons_succ]
  refine wpAnyH_take (i := 7) (v := ?_) rfl (by kernel_rfl) (by kernel_rfl) (by kernel_rfl) (fun _ _ _ h => h) (Or.inl ⟨by rfl, ?_⟩) (by assumption) ?_
  rotate_left
  · intro w hSw
    (try dsimp only at hSw)
    go_simp
    all_goals with_reducible rfl
  try simp only [Act.put, List.getElem_toArray, List.getElem_cons_succ, List.getElem_cons_zero, List.setIfInBounds_toArray, List.set_cons_zero, List.set_cons_succ]
  refine wpAnyH_take (i := 8) (v := ?_) rfl (by kernel_rfl) (by kernel_rfl) (by kernel_rfl) (fun _ _ _ h => h) (Or.inl ⟨by rfl, ?_⟩) (by assumption) ?_
  rotate_left
  · intro w hSw
    (try dsimp only at hSw)
    go_simp
    all_goals with_reducible rfl
  try simp only [Act.put, List.getElem_toArray, List.getElem_cons_succ, List.getElem_cons_zero, List.setIfInBounds_toArray, List.set_cons_zero, List.set_cons_succ]
  refine wpAnyH_take (i := 9) (v := ?_) rfl (by kernel_rfl) (by kernel_rfl) (by kernel_rfl) (fun _ _ _ h => h) (Or.inl ⟨by rfl, ?_⟩) (by assumption) ?_
  rotate_left
  · intro w hSw
    (try dsimp only at hSw)
    go_simp
    all_goals with_reducible rfl
  try simp only [Act.put, List.getElem_toArray, List.getElem_cons_succ, List.getElem_cons_zero, List.setIfInBounds_toArray, List.set_cons_zero, List.set_cons_succ]
  refine wpAnyH_take (i := 10) (v := ?_) rfl (by kernel_rfl) (by kernel_rfl) (by kernel_rfl) (fun _ _ _ h => h) (Or.inl ⟨by rfl, ?_⟩) (by assumption) ?_
  rotate_left
  · intro w hSw
    (try dsimp only at hSw)
    go_simp
    all_goals with_reducible rfl
  try simp only [Act.put, List.getElem_toArray, List.getElem_cons_succ, List.getElem_cons_zero, List.setIfInBounds_toArray, List.set_cons_zero, List.set_cons_succ]
  refine wpAnyH_take (i := 11) (v := ?_) rfl (by kernel_rfl) (by kernel_rfl) (by kernel_rfl) (fun _ _ _ h => h) (Or.inl ⟨by rfl, ?_⟩) (by assumption) ?_
  rotate_left
  · intro w hSw
    (try dsimp only at hSw)
    go_simp
    all_goals with_reducible rfl
  try simp only [Act.put, List.getElem_toArray, List.getElem_cons_succ, List.getElem_cons_zero, List.setIfInBounds_toArray, List.set_cons_zero, List.set_cons_succ]
  refine wpAnyH_take (i := 12) (v := ?_) rfl (by kernel_rfl) (by kernel_rfl) (by kernel_rfl) (fun _ _ _ h => h) (Or.inl ⟨by rfl, ?_⟩) (by assumption) ?_
  rotate_left
  · intro w hSw
    (try dsimp only at hSw)
    go_simp
    all_goals with_reducible rfl
  try simp only [Act.put, List.getElem_toArray, List.getElem_cons_succ, List.getElem_cons_zero, List.setIfInBounds_toArray, List.set_cons_zero, List.set_cons_succ]
  refine wpAnyH_take (i := 13) (v := ?_) rfl (by kernel_rfl) (by kernel_rfl) (by kernel_rfl) (fun _ _ _ h => h) (Or.inl ⟨by rfl, ?_⟩) (by assumption) ?_
  rotate_left
  · intro w hSw
    (try dsimp only at hSw)
    go_simp
    all_goals with_reducible rfl
  try simp only [Act.put, List.getElem_toArray, List.getElem_cons_succ, List.getElem_cons_zero, List.setIfInBounds_toArray, List.set_cons_zero, List.set_cons_succ]
  refine wpAnyH_take (i := 14) (v := ?_) rfl (by kernel_rfl) (by kernel_rfl) (by kernel_rfl) (fun _ _ _ h => h) (Or.inl ⟨by rfl, ?_⟩) (by assumption) ?_
  rotate_left
  · intro w hSw
    (try dsimp only at hSw)
    go_simp
    all_goals with_reducible rfl
  try simp only [Act.put, List.getElem_toArray, List.getElem_cons_succ, List.getElem_cons_zero, List.setIfInBounds_toArray, List.set_cons_zero, List.set_cons_succ]
  refine wpAnyH_take (i := 15) (v := ?_) rfl (by kernel_rfl) (by kernel_rfl) (by kernel_rfl) (fun _ _ _ h => h) (Or.inl ⟨by rfl, ?_⟩) (by assumption) ?_
  rotate_left
  · intro w hSw
    (try dsimp only at hSw)
    go_simp
    all_goals with_reducible rfl
  try simp only [Act.put, List.getElem_toArray, List.getElem_cons_succ, List.getElem_cons_zero, List.setIfInBounds_toArray, List.set_cons_zero, List.set_cons_succ]
  refine wpAnyH_take (i := 16) (v := ?_) rfl (by kernel_rfl) (by kernel_rfl) (by kernel_rfl) (fun _ _ _ h => h) (Or.inl ⟨by rfl, ?_⟩) (by assumption) ?_
  rotate_left
  · intro w hSw
    (try dsimp only at hSw)
    go_simp
    all_goals with_reducible rfl
  try simp only [Act.put, List.getElem_toArray, List.getElem_cons_succ, List.getElem_cons_zero, List.setIfInBounds_toArray, List.set_cons_zero, List.set_cons_succ]
  refine wpAnyH_take (i := 17) (v := ?_) rfl (by kernel_rfl) (by kernel_rfl) (by kernel_rfl) (fun _ _ _ h => h) (Or.inl ⟨by rfl, ?_⟩) (by assumption) ?_
  rotate_left
  · intro w hSw
    (try dsimp only at hSw)
    go_simp
    all_goals with_reducible rfl
  try simp only [Act.put, List.getElem_toArray, List.getElem_cons_succ, List.getElem_cons_zero, List.setIfInBounds_toArray, List.set_cons_zero, List.set_cons_succ]
  refine wpAnyH_take (i := 18) (v := ?_) rfl (by kernel_rfl) (by kernel_rfl) (by kernel_rfl) (fun _ _ _ h => h) (Or.inl ⟨by rfl, ?_⟩) (by assumption) ?_
  rotate_left
  · intro w hSw
    (try dsimp only at hSw)
    go_simp
    all_goals with_reducible rfl
  try simp only [Act.put, List.getElem_toArray, List.getElem_cons_succ, List.getElem_cons_zero, List.setIfInBounds_toArray, List.set_cons_zero, List.set_cons_succ]
  refine wpAnyH_take (i := 19) (v := ?_) rfl (by kernel_rfl) (by kernel_rfl) (by kernel_rfl) (fun _ _ _ h => h) (Or.inl ⟨by rfl, ?_⟩) (by assumption) ?_
  rotate_left
  · intro w hSw
    (try dsimp only at hSw)
    go_simp
    all_goals with_reducible rfl
  try simp only [Act.put, List.getElem_toArray, List.getElem_cons_succ, List.getElem_cons_zero, List.setIfInBounds_toArray, List.set_cons_zero, List.set_cons_succ]
  refine wpAnyH_take (i := 20) (v := ?_) rfl (by kernel_rfl) (by kernel_rfl) (by kernel_rfl) (fun _ _ _ h => h) (Or.inl ⟨by rfl, ?_⟩) (by assumption) ?_
  rotate_left
  · intro w hSw
    (try dsimp only at hSw)
    go_simp
    all_goals with_reducible rfl
  try simp only [Act.put, List.getElem_toArray, List.getElem_cons_succ, List.getElem_cons_zero, List.setIfInBounds_toArray, List.set_cons_zero, List.set_cons_succ]
  refine wpAnyH_take (i := 21) (v := ?_) rfl (by kernel_rfl) (by kernel_rfl) (by kernel_rfl) (fun _ _ _ h => h) (Or.inl ⟨by rfl, ?_⟩) (by assumption) ?_
  rotate_left
  · intro w hSw
    (try dsimp only at hSw)
    go_simp
    all_goals with_reducible rfl
  try simp only [Act.put, List.getElem_toArray, List.getElem_cons_succ, List.getElem_cons_zero, List.setIfInBounds_toArray, List.set_cons_zero, List.set_cons_succ]
  refine wpAnyH_take (i := 22) (v := ?_) rfl (by kernel_rfl) (by kernel_rfl) (by kernel_rfl) (fun _ _ _ h => h) (Or.inl ⟨by rfl, ?_⟩) (by assumption) ?_
  rotate_left
  · intro w hSw
    (try dsimp only at hSw)
    go_simp
    all_goals with_reducible rfl
  try simp only [Act.put, List.getElem_toArray, List.getElem_cons_succ, List.getElem_cons_zero, List.setIfInBounds_toArray, List.set_cons_zero, List.set_cons_succ]
  refine wpAnyH_done (by kernel_rfl) ?_ _
  clear hHeld
  go_wp2
  go_ret
  exact ⟨by rw [hvt.out]; rfl, Below.drew (Below.refl _ _)⟩
end
section
open Go.RowKit Go.Sort
open Crc Frm
attribute [local go_sem] Oper.semAt_some

/-- The numbers, as bytes. -/
def mNums (l : List Int) : List Nat := l.flatMap fun n => be 4 n.toNat
def mSum (l : List Int) : List Nat := l.length :: mNums l
def mRaw (l : List Int) : List Nat := mSum l ++ be 4 (more 0 (mSum l))
/-- A list's bytes. -/
def mPut (l : List Int) : List Nat := if mOk l = true then mRaw l else []
theorem upL_all : ∀ (l : List Int) (z : Int), upL z l = true → ∀ x ∈ l, z < x ∧ x ≤ 1073741824
  | [], _, _, x, hx => by cases hx
  | y :: l, z, h, x, hx => by
    simp only [upL, Bool.and_eq_true, decide_eq_true_eq] at h
    rcases List.mem_cons.1 hx with rfl | hx
    · exact ⟨h.1, h.2.1⟩
    · have := upL_all l y h.2.2 x hx
      exact ⟨by omega, this.2⟩
theorem mOk_all {l : List Int} (h : mOk l = true) : 1 ≤ l.length ∧ l.length ≤ 40 ∧ ∀ x ∈ l, 0 ≤ x ∧ x ≤ 1073741824 := by
  simp only [mOk, Bool.and_eq_true, decide_eq_true_eq] at h
  refine ⟨h.1, h.2.1, fun x hx => ?_⟩
  have := upL_all l _ h.2.2 x hx
  omega
theorem mNums_len (l : List Int) : (mNums l).length = 4 * l.length := by
  induction l with
  | nil => rfl
  | cons x l ih => simp only [mNums, List.flatMap_cons, List.length_append, be_len, List.length_cons] at *; omega
theorem mNums_byte (l : List Int) : ∀ c ∈ mNums l, c < 256 := by
  intro c hc
  obtain ⟨m, _, h⟩ := List.mem_flatMap.1 hc
  exact be_byte _ _ c h
theorem mNums_snoc (l : List Int) (x : Int) : mNums (l ++ [x]) = mNums l ++ be 4 x.toNat := by simp [mNums]

set_option linter.unusedSimpArgs false in
set_option maxRecDepth 100000 in
set_option maxHeartbeats 3200000 in
theorem mput_any (l : List Int) (a : Option Addr) (n c : Nat) (w : World) (hr : Row w w.heap.size a n c 1 (intsC l)) (hn : l.length = n) :
    Calls Tryz.prog 135 #[.slice a n c] w fun e w' => ∃ v, e = .returned v ∧ OwnB w' w.heap.size 5 v (mPut l) ∧ Below w.heap.size w w' := by
  have R := Lib.hid (mright_any l a n c w hr hn)
  by_cases hok : mOk l = true
  · have hall := mOk_all hok
    rw [hok] at R
    have hp : Hid (mPut l = mRaw l) := by show _ = _; unfold mPut; rw [if_pos hok]
    have n1 : 1 ≤ n := by omega
    have n2 : n ≤ 40 := by omega
    obtain ⟨i8, hi8, hz0, hz1, hz2⟩ := info_parts info_u8
    have u0 : (n : Int) % 256 = (n : Int) := by omega
    have HR := Lib.hid (And.intro hr (And.intro hn hall.2.2))
    clear hr hn hall
    go_enter Tryz.func135, Tryz.ntmps135
    go_wp2_with fail
    refine R.out.mono ?_
    rintro e w1 ⟨rfl, rfl⟩
    have SZ := Lib.hid (msize_any n (by omega) w)
    go_wp2_with fail
    refine SZ.out.mono ?_
    rintro e w1 ⟨rfl, rfl⟩
    go_wp2_with (first
      | (at_make; refine wpList_make_own _ rfl (.const (.int .i64 0)) (.tmp 11) 38 rfl w.heap.size 5 i8 (.int .u8 0) 1 Tryz.underlying38 hi8 hz0 hz1 .i64 .i64 _ (5 + 4 * n) rfl rfl (by omega) (by rw [hz2]; omega) (by unfold maxLen; omega) (by omega) ?_; intro w3 hown hg; have ho3 : OwnB w3 w.heap.size 5 (.slice (some ⟨w.heap.size, 0, none⟩) 0 (5 + 4 * n)) [] := hown; have hB3 : Below w.heap.size w w3 := (RowKit.Below.refl _ _).grown hg (Nat.le_refl _) (fun k hk => by cases hk); have H3 := Lib.hid (And.intro ho3 hB3); clear hown hg ho3 hB3)
      | (at_builtin; go_loud (refine wpList_append_sl rfl (.tmp 13) (.tmp 17) 38 rfl w.heap.size _ Tryz.underlying38 info_u8 _ [] rfl (H3.out.1.alloc _) _ (some ⟨w3.heap.size, 0, none⟩) 1 1 [n] rfl (Sl.one _ _ (by omega)) (by simp) (by have := H3.out.2.size; simp; omega) ?_; intro v4 w4 hown4 hg4 hat4; have hB4 : Below w.heap.size w w4 := (H3.out.2.alloc H3.out.2.size _).grown hg4 (by have := H3.out.2.size; simp; omega) (fun k hk => (H3.out.1.at_base hk).1); have H4 := Lib.hid (And.intro hown4 hB4); clear hown4 hB4 hg4 hat4 H3))
      | fail)
    go_loopw [3, 5, 21] (fun u _ i wx => ∃ k : Nat, k ≤ n ∧ i = .int .i64 (k : Int) ∧ OwnB wx w.heap.size 5 u (n :: mNums (l.take k)) ∧ Below w.heap.size w wx) (fun _ _ i _ => n - (intOf i).toNat)
    case atStart => exact ⟨0, Nat.zero_le _, rfl, H4.out.1, H4.out.2⟩
    case round =>
      obtain ⟨k, hk, rfl, ho, hb⟩ := hrel
      by_cases hlt : k < n
      · obtain ⟨b, o, rfl, hbl, hc⟩ := HR.out.1.at_ (by omega)
        have c0 := (hb.cell (p := ⟨b, o + k, none⟩) hbl).trans (hc k (by omega))
        simp only [intsC, Nat.mul_one] at c0
        have hlk : k < l.length := by have := HR.out.2.1; omega
        have hmem : l.getD k 0 ∈ l := by rw [List.getD_eq_getElem?_getD, List.getElem?_eq_getElem hlk]; exact List.getElem_mem _
        have hx := HR.out.2.2 _ hmem
        have htk : l.take (k + 1) = l.take k ++ [l.getD k 0] := by rw [List.take_succ_eq_append_getElem hlk, List.getD_eq_getElem?_getD, List.getElem?_eq_getElem hlk]; rfl
        have Hnx : Hid (mNums (l.take (k + 1)) = mNums (l.take k) ++ be 4 (l.getD k 0).toNat) := by show _ = _; rw [htk, mNums_snoc]
        generalize l.getD k 0 = x at *
        obtain ⟨y, rfl⟩ := Int.eq_ofNat_of_zero_le hx.1
        have w1 : IntKind.u32.wrap ((y : Nat) : Int) = (y : Int) := by rw [IntKind.wrap_u32']; omega
        have w2 : ((y : Nat) : Int) % 4294967296 = (y : Int) := by omega
        have hlen : (n :: mNums (l.take k)).length ≤ 1000000 := by have h1 := mNums_len (l.take k); have h2 := List.length_take_le k l; simp only [List.length_cons]; omega
        have WR := Lib.hid (mwrite_any w.heap.size _ _ y wr ho hb.size (by omega) hlen)
        have HB := Lib.hid (And.intro hb ho)
        clear hc hb hmem htk ho hx hlen
        go_wp2_with fail
        refine WR.out.mono ?_
        rintro e w5 ⟨v5, rfl, ho5, hg5, hat5⟩
        have hB5 : Below w.heap.size w w5 := HB.out.1.grown hg5 HB.out.1.size (fun k hk => (HB.out.2.at_base hk).1)
        have H5 := Lib.hid (And.intro ho5 hB5)
        clear ho5 hB5 hg5 hat5 WR
        go_wp2
        go_roundw
        case rel => exact ⟨k + 1, by omega, by go_num, by rw [Hnx.out]; exact H5.out.1, H5.out.2⟩
        case measure => simp [intOf]; omega
      · have hkn : k = n := by omega
        subst hkn
        have hms : k :: mNums (l.take k) = mSum l := by rw [List.take_of_length_le (by have := HR.out.2.1; omega)]; unfold mSum; rw [HR.out.2.1]
        rw [hms] at ho
        have hbb : ∀ c ∈ mSum l, c < 256 := by
          intro c hc
          rcases List.mem_cons.1 hc with rfl | h
          · have := HR.out.2.1; omega
          · exact mNums_byte l c h
        have hsl : (mSum l).length ≤ 1000000 := by have h1 := mNums_len l; have h2 := HR.out.2.1; unfold mSum; simp only [List.length_cons]; omega
        obtain ⟨a5, cap5, rfl, hs5⟩ := ho.sl hbb
        have hml := more_lt 0 (mSum l)
        have Hraw : Hid (mPut l = mSum l ++ be 4 (more 0 (mSum l))) := by show _ = _; rw [hp.out]; rfl
        generalize mSum l = ms at *
        generalize hml0 : more 0 ms = m at *
        have HM := Lib.hid hml0
        have OF := Lib.hid (of_any a5 ms.length cap5 ms wr hs5)
        have H5 := Lib.hid (And.intro ho hb)
        clear ho hb hs5 hbb hms hml0
        go_wp2_with fail
        refine OF.out.mono ?_
        rintro e w6 ⟨rfl, hb6⟩
        rw [HM.out]
        have WR := Lib.hid (mwrite_any w.heap.size _ ms m w6 (H5.out.1.below hb6) (Nat.le_trans H5.out.2.size hb6.size) (by omega) hsl)
        have H6 := Lib.hid (And.intro (H5.out.1.below hb6) (H5.out.2.trans (hb6.mono H5.out.2.size)))
        clear hb6 OF
        go_wp2_with fail
        refine WR.out.mono ?_
        rintro e w7 ⟨v7, rfl, ho7, hg7, hat7⟩
        have hB7 : Below w.heap.size w w7 := H6.out.2.grown hg7 H6.out.2.size (fun k hk => (H6.out.1.at_base hk).1)
        have H7 := Lib.hid (And.intro ho7 hB7)
        clear ho7 hB7 hg7 hat7 WR
        go_wp2
        go_ret
        exact ⟨_, rfl, by rw [Hraw.out]; exact H7.out.1, H7.out.2⟩
  · have hno : mOk l = false := by simpa using hok
    rw [hno] at R
    have hp : Hid (mPut l = []) := by show _ = _; unfold mPut; rw [if_neg hok]
    go_enter Tryz.func135, Tryz.ntmps135
    go_wp2_with fail
    refine R.out.mono ?_
    rintro e w1 ⟨rfl, rfl⟩
    go_wp2
    go_ret
    exact ⟨_, rfl, by rw [hp.out]; exact OwnB.nil_ _ _ _, Below.refl _ _⟩
end
section
open Go.RowKit Go.Sort
open Crc Frm
attribute [local go_sem] Oper.semAt_some

/-- Number j of bytes. -/
def mNum (bs : List Nat) (j : Nat) : Int := ((val ((bs.drop (1 + 4 * j)).take 4) : Nat) : Int)
def mList (bs : List Nat) : List Int := (List.range (bs.getD 0 0)).map (mNum bs)
/-- The list of bytes, and the error. -/
def mGet (bs : List Nat) : List Int × Nat :=
  if bs.length = 0 ∨ bs.length ≠ 5 + 4 * bs.getD 0 0 then ([], 12)
  else if val (bs.drop (bs.length - 4)) ≠ more 0 (bs.take (bs.length - 4)) then ([], 14)
  else if mOk (mList bs) = true then (mList bs, 0) else ([], 12)
theorem info_i64m : (Tryz.prog.info? 2).map (fun i => (i.zero, i.size, i.bytes)) = some (some (.int .i64 0), 1, 8) := by kernel_rfl
theorem row_own {w : World} {base : Nat} {e : TypeId} {g n c : Nat} {l : List Int} (h : OwnV w base e (.slice (some ⟨g, 0, none⟩) n c) (i64V l)) : Row w w.heap.size (some ⟨g, 0, none⟩) n c 1 (intsC l) := by
  have hl := h.len
  have hb := h.base_
  have hcc : n ≤ c ∧ c ≤ maxLen := by
    rcases h.2 with ⟨h', _⟩ | ⟨g', cap', cur, h', _, _, h1, h2, _⟩
    · cases h'
    · injection h' with _ h4 h5
      subst h5
      rw [hl]
      exact ⟨h1, h2⟩
  refine ⟨hcc.1, hcc.2, fun _ => ⟨g, 0, rfl, hb.2, fun j hj => ?_⟩⟩
  have hj' : j < l.length := by rw [List.length_map] at hl; omega
  rw [Nat.zero_add, (h.cell (k := j) (u := .int .i64 l[j]) (by rw [List.getElem?_map, List.getElem?_eq_getElem hj']; rfl)).1]
  simp only [intsC, List.getD_eq_getElem?_getD, List.getElem?_eq_getElem hj']
  rfl

set_option linter.unusedSimpArgs false in
set_option maxRecDepth 100000 in
set_option maxHeartbeats 3200000 in
theorem mget_any (a : Option Addr) (len cap : Nat) (bs : List Nat) (w : World) (hs : Sl w w.heap.size a len cap bs) (hl : len ≤ 2000000) :
    Calls Tryz.prog 141 #[.slice a len cap] w fun e w' => ∃ v, e = .returned (.tuple #[v, .int .i64 (((mGet bs).2 : Nat) : Int)]) ∧ OwnV w' w.heap.size 2 v (i64V (mGet bs).1) ∧ Below w.heap.size w w' := by
  have hlen := hs.length
  have hcap := hs.le
  by_cases h0 : len = 0
  · subst h0
    have hg : mGet bs = ([], 12) := by unfold mGet; rw [if_pos (.inl hlen)]
    rw [hg]
    clear hs hlen hg
    go_enter Tryz.func141, Tryz.ntmps141
    go_wp2
    go_ret2
    exact ⟨_, rfl, OwnV.nil_ _ _ _, Below.refl _ _⟩
  · obtain ⟨b, o, rfl, hb, hc⟩ := hs.at_ (by omega)
    have c0 : w.cell? ⟨b, o, none⟩ = some (.int .u8 ((bs.getD 0 0 : Nat) : Int)) := hc 0 (by omega)
    have l0 : bs.getD 0 0 < 256 := by rw [List.getD_eq_getElem?_getD, List.getElem?_eq_getElem (by omega)]; exact hs.byte _ (List.getElem_mem _)
    have n0 : 0 < len := by omega
    have z0 : ((len : Int) == 0) = false := by simp; omega
    have z1 : ¬ ((len : Int) = 0) := by omega
    have HG : Hid (mGet bs = if len = 0 ∨ len ≠ 5 + 4 * bs.getD 0 0 then ([], 12) else if val (bs.drop (len - 4)) ≠ more 0 (bs.take (len - 4)) then ([], 14) else if mOk (mList bs) = true then (mList bs, 0) else ([], 12)) := by show _ = _; unfold mGet; rw [hlen]
    have HLs : Hid (mList bs = (List.range (bs.getD 0 0)).map (mNum bs)) := rfl
    have HS := Lib.hid hs
    generalize bs.getD 0 0 = b0 at *
    have w0 : IntKind.i64.wrap (b0 : Int) = (b0 : Int) := by rw [IntKind.wrap_i64]; omega
    have SZ := Lib.hid (msize_any b0 (by omega) w)
    obtain ⟨q, hq⟩ : ∃ q, q = 5 + 4 * b0 := ⟨_, rfl⟩
    rw [← hq] at SZ
    have Hq := Lib.hid hq
    clear hs hc hlen
    by_cases hlq : len = q
    · subst hlq
      have Hlq := Lib.hid hq
      clear hq
      obtain ⟨m, hm⟩ : ∃ m, m = len - 4 := ⟨_, rfl⟩
      have hm4 : m + 4 = len := by have := Hlq.out; omega
      have s4 : IntKind.i64.wrap ((len : Int) - 4) = (m : Int) := by rw [IntKind.wrap_i64]; omega
      obtain ⟨a4, ha4⟩ : ∃ a4, a4 = fromA (some ⟨b, o, none⟩) cap m := ⟨_, rfl⟩
      have kcut : ∀ x, (Instr.slice 38 (.slice (some ⟨b, o, none⟩) len cap) none (some (.int .i64 (m : Int))) none).run Tryz.prog x = .ok (.slice (some ⟨b, o, none⟩) m cap) x := run_cut_to (P := Tryz.prog) 38 5 Tryz.underlying38 info_u8 _ len cap m (by omega)
      obtain ⟨c4, hc4⟩ : ∃ c4, c4 = cap - m := ⟨_, rfl⟩
      have kfrom : ∀ x, (Instr.slice 38 (.slice (some ⟨b, o, none⟩) len cap) (some (.int .i64 (m : Int))) none none).run Tryz.prog x = .ok (.slice a4 4 c4) x := fun x => by
        have := run_cut_from (P := Tryz.prog) 38 5 Tryz.underlying38 info_u8 (some ⟨b, o, none⟩) len cap m (by omega) x
        rw [this, ha4, hc4, show len - m = 4 from by omega]
        rfl
      have S4 : Sl w w.heap.size a4 4 c4 (bs.drop m) := by
        have := HS.out.from_ (k := m) (by omega)
        rw [← ha4, ← hc4, show len - m = 4 from by omega] at this
        exact this
      have SM : Sl w w.heap.size (some ⟨b, o, none⟩) m cap (bs.take m) := HS.out.take (by omega)
      have RD := Lib.hid (fun (x : World) (hx : Below w.heap.size w x) => mread_any a4 4 c4 (bs.drop m) x ((S4.below hx (Nat.le_refl _)).more hx.size) (Nat.le_refl _))
      have OF := Lib.hid (fun (x : World) (hx : Below w.heap.size w x) => of_from (B := w.heap.size) (Nat.le_refl _) SM x hx)
      have ht4 : (bs.drop m).take 4 = bs.drop m := by rw [List.take_of_length_le (by have := S4.length; omega)]
      rw [ht4] at RD
      rw [← hm] at HG
      have hv4 : val (bs.drop m) < 4294967296 := by
        have := val_lt (bs.drop m) S4.byte
        rw [S4.length] at this
        simpa using this
      have hmo := more_lt 0 (bs.take m)
      generalize val (bs.drop m) = x4 at *
      generalize more 0 (bs.take m) = y4 at *
      clear S4 SM ht4 ha4 hc4 hm
      go_enter Tryz.func141, Tryz.ntmps141
      go_wp2_with fail
      refine SZ.out.mono ?_
      rintro e w1 ⟨rfl, rfl⟩
      go_wp2_with fail
      refine wp_region_held_drew (S := fun x => x.cell? ⟨b, o, none⟩ = some (.int .u8 (b0 : Int))) (by kernel_rfl) c0 (fun hHeld => ?_)
      refine wpAnyH_take (i := 0) (v := ?_) rfl (by kernel_rfl) (by kernel_rfl) (by kernel_rfl) (fun _ _ _ h => h) (Or.inl ⟨by rfl, ?_⟩) (by assumption) ?_
      rotate_left
      · intro w hSw
        (try dsimp only at hSw)
        go_simp
        all_goals with_reducible rfl
      try simp only [Act.put, List.getElem_toArray, List.getElem_cons_succ, List.getElem_cons_zero, List.setIfInBounds_toArray, List.set_cons_zero, List.set_cons_succ]
      refine wpAnyH_take (i := 1) (v := ?_) rfl (by kernel_rfl) (by kernel_rfl) (by kernel_rfl) (fun _ _ _ h => h) (Or.inl ⟨by rfl, ?_⟩) (by assumption) ?_
      rotate_left
      · intro w hSw
        (try dsimp only at hSw)
        go_simp
        all_goals with_reducible rfl
      try simp only [Act.put, List.getElem_toArray, List.getElem_cons_succ, List.getElem_cons_zero, List.setIfInBounds_toArray, List.set_cons_zero, List.set_cons_succ]
      refine wpAnyH_take (i := 2) (v := ?_) rfl (by kernel_rfl) (by kernel_rfl) (by kernel_rfl) (fun _ _ _ h => h) (Or.inl ⟨by rfl, ?_⟩) (by assumption) ?_
      rotate_left
      · intro w hSw
        (try dsimp only at hSw)
        go_simp
        all_goals with_reducible rfl
      try simp only [Act.put, List.getElem_toArray, List.getElem_cons_succ, List.getElem_cons_zero, List.setIfInBounds_toArray, List.set_cons_zero, List.set_cons_succ]
      refine wpAnyH_take (i := 3) (v := ?_) rfl (by kernel_rfl) (by kernel_rfl) (by kernel_rfl) (fun _ _ _ h => h) (Or.inl ⟨by rfl, ?_⟩) (by assumption) ?_
      rotate_left
      · intro w hSw
        (try dsimp only at hSw)
        go_simp
        all_goals with_reducible rfl
      try simp only [Act.put, List.getElem_toArray, List.getElem_cons_succ, List.getElem_cons_zero, List.setIfInBounds_toArray, List.set_cons_zero, List.set_cons_succ]
      refine wpAnyH_take (i := 4) (v := ?_) rfl (by kernel_rfl) (by kernel_rfl) (by kernel_rfl) (fun _ _ _ h => h) (Or.inl ⟨by rfl, ?_⟩) (by assumption) ?_
      rotate_left
      · intro w hSw
        (try dsimp only at hSw)
        go_simp
        all_goals with_reducible rfl
      try simp only [Act.put, List.getElem_toArray, List.getElem_cons_succ, List.getElem_cons_zero, List.setIfInBounds_toArray, List.set_cons_zero, List.set_cons_succ]
      refine wpAnyH_take (i := 5) (v := ?_) rfl (by kernel_rfl) (by kernel_rfl) (by kernel_rfl) (fun _ _ _ h => h) (Or.inl ⟨by rfl, ?_⟩) (by assumption) ?_
      rotate_left
      · intro w hSw
        (try dsimp only at hSw)
        go_simp
        all_goals with_reducible rfl
      try simp only [Act.put, List.getElem_toArray, List.getElem_cons_succ, List.getElem_cons_zero, List.setIfInBounds_toArray, List.set_cons_zero, List.set_cons_succ]
      refine wpAnyH_take (i := 6) (v := ?_) rfl (by kernel_rfl) (by kernel_rfl) (by kernel_rfl) (fun _ _ _ h => h) (Or.inl ⟨by rfl, ?_⟩) (by assumption) ?_
      rotate_left
      · intro w hSw
        (try dsimp only at hSw)
        go_simp
        all_goals with_reducible rfl
      try simp only [Act.put, List.getElem_toArray, List.getElem_cons_succ, List.getElem_cons_zero, List.setIfInBounds_toArray, List.set_cons_zero, List.set_cons_succ]
      refine wpAnyH_take (i := 7) (v := ?_) rfl (by kernel_rfl) (by kernel_rfl) (by kernel_rfl) (fun _ _ _ h => h) (Or.inl ⟨by rfl, ?_⟩) (by assumption) ?_
      rotate_left
      · intro w hSw
        (try dsimp only at hSw)
        go_simp
        all_goals with_reducible rfl
      try simp only [Act.put, List.getElem_toArray, List.getElem_cons_succ, List.getElem_cons_zero, List.setIfInBounds_toArray, List.set_cons_zero, List.set_cons_succ]
      refine wpAnyH_take (i := 8) (v := ?_) rfl (by kernel_rfl) (by kernel_rfl) (by kernel_rfl) (fun _ _ _ h => h) (Or.inl ⟨by rfl, ?_⟩) (by assumption) ?_
      rotate_left
      · intro w hSw
        (try dsimp only at hSw)
        go_simp
        all_goals with_reducible rfl
      try simp only [Act.put, List.getElem_toArray, List.getElem_cons_succ, List.getElem_cons_zero, List.setIfInBounds_toArray, List.set_cons_zero, List.set_cons_succ]
      refine wpAnyH_take (i := 9) (v := ?_) rfl (by kernel_rfl) (by kernel_rfl) (by kernel_rfl) (fun _ _ _ h => h) (Or.inl ⟨by rfl, ?_⟩) (by assumption) ?_
      rotate_left
      · intro w hSw
        (try dsimp only at hSw)
        go_simp
        all_goals with_reducible rfl
      try simp only [Act.put, List.getElem_toArray, List.getElem_cons_succ, List.getElem_cons_zero, List.setIfInBounds_toArray, List.set_cons_zero, List.set_cons_succ]
      refine wpAnyH_take (i := 10) (v := ?_) rfl (by kernel_rfl) (by kernel_rfl) (by kernel_rfl) (fun _ _ _ h => h) (Or.inl ⟨by rfl, ?_⟩) (by assumption) ?_
      rotate_left
      · intro w hSw
        (try dsimp only at hSw)
        go_simp
        all_goals with_reducible rfl
      try simp only [Act.put, List.getElem_toArray, List.getElem_cons_succ, List.getElem_cons_zero, List.setIfInBounds_toArray, List.set_cons_zero, List.set_cons_succ]
      refine wpAnyH_take (i := 11) (v := ?_) rfl (by kernel_rfl) (by kernel_rfl) (by kernel_rfl) (fun _ _ _ h => h) (Or.inl ⟨by rfl, ?_⟩) (by assumption) ?_
      rotate_left
      · intro w hSw
        (try dsimp only at hSw)
        go_simp
        all_goals with_reducible rfl
      try simp only [Act.put, List.getElem_toArray, List.getElem_cons_succ, List.getElem_cons_zero, List.setIfInBounds_toArray, List.set_cons_zero, List.set_cons_succ]
      refine wpAnyH_done (by kernel_rfl) ?_ _
      clear hHeld
      have hBd : Below w.heap.size w w.drew := Below.drew (Below.refl _ _)
      have Hd := Lib.hid hBd
      go_wp2_with fail
      refine (RD.out _ hBd).mono ?_
      rintro e w2 ⟨rfl, hb2⟩
      have hB2 := hBd.trans (hb2.mono hBd.size)
      have HB2 := Lib.hid hB2
      clear hb2 hBd hB2 kcut kfrom s4
      go_wp2_with fail
      refine (OF.out _ HB2.out).mono ?_
      rintro e w3 ⟨rfl, hb3⟩
      have c3 := (hb3.cell (p := ⟨b, o, none⟩) hb).trans c0
      have HB3 := Lib.hid hb3
      clear hb3 HB2 RD OF SZ c0
      by_cases hxy : x4 = y4
      · subst hxy
        have hg : Hid (mGet bs = if mOk (mList bs) = true then (mList bs, 0) else ([], 12)) := by
          show _ = _
          rw [HG.out, if_neg (by have := Hlq.out; omega), if_neg (by simp)]
        obtain ⟨i8, hi8, hz0, hz1, hz2⟩ := info_parts info_i64m
        clear HG hv4 hmo
        go_wp2_with (first
          | (at_make; refine wpList_make_full _ rfl (.tmp 38) (.tmp 38) 50 rfl w.heap.size 2 i8 (.int .i64 0) 1 Tryz.underlying50 hi8 hz0 hz1 .u8 .u8 _ _ b0 rfl rfl rfl rfl (by rw [hz2]; omega) (by unfold maxLen; omega) HB3.out.size ?_; intro w4 hown hg4; have ho4 := OwnV.made rfl hown; have hB4 : Below w.heap.size w w4 := HB3.out.grown hg4 HB3.out.size (fun k hk => by cases hk); have H4 := Lib.hid (And.intro ho4 hB4); clear hown hg4 ho4 hB4)
          | fail)
        obtain ⟨g, hgg⟩ : ∃ g, g = w3.heap.size := ⟨_, rfl⟩
        rw [← hgg] at H4 ⊢
        have hgw : w.heap.size ≤ g := by have := HB3.out.size; omega
        clear hgg
        go_loopw [7, 42] (fun _ i wr => ∃ (k : Nat) (us : List Value), k ≤ b0 ∧ i = .int .i64 (k : Int) ∧ us.length = b0 ∧ (∀ j, j < k → us[j]? = some (.int .i64 (mNum bs j))) ∧
          OwnV wr w.heap.size 2 (.slice (some ⟨g, 0, none⟩) b0 b0) us ∧ Below w.heap.size w wr) (fun _ i _ => b0 - (intOf i).toNat)
        case atStart => exact ⟨0, _, Nat.zero_le _, rfl, List.length_replicate, fun j hj => by omega, H4.out.1, H4.out.2⟩
        case round =>
          obtain ⟨k, us, hk, rfl, hul, huj, how, hB⟩ := hrel
          by_cases hlt : k < b0
          · have hkc := OwnV.cell how (k := k) (List.getElem?_eq_getElem (by omega))
            obtain ⟨p, hp⟩ : ∃ p, p = 1 + 4 * k := ⟨_, rfl⟩
            have hpl : p + 4 ≤ len := by have := Hlq.out; omega
            have v1 : IntKind.i64.wrap ((k : Int) * 4) = (k : Int) * 4 := by rw [IntKind.wrap_i64]; omega
            have v2 : IntKind.i64.wrap (1 + (k : Int) * 4) = (p : Int) := by rw [IntKind.wrap_i64]; omega
            obtain ⟨aa, haa⟩ : ∃ aa, aa = fromA (some ⟨b, o, none⟩) cap p := ⟨_, rfl⟩
            obtain ⟨nn, hnn⟩ : ∃ nn, nn = len - p := ⟨_, rfl⟩
            obtain ⟨cc, hcc⟩ : ∃ cc, cc = cap - p := ⟨_, rfl⟩
            have kf : ∀ x, (Instr.slice 38 (.slice (some ⟨b, o, none⟩) len cap) (some (.int .i64 (p : Int))) none none).run Tryz.prog x = .ok (.slice aa nn cc) x := fun x => by
              have := run_cut_from (P := Tryz.prog) 38 5 Tryz.underlying38 info_u8 (some ⟨b, o, none⟩) len cap p (by omega) x
              rw [this, haa, hnn, hcc]
              rfl
            have SP : Sl w w.heap.size aa nn cc (bs.drop p) := by
              have := HS.out.from_ (k := p) (by omega)
              rw [← haa, ← hnn, ← hcc] at this
              exact this
            have RP := Lib.hid (mread_any aa nn cc (bs.drop p) wr ((SP.below hB (Nat.le_refl _)).more hB.size) (by omega))
            have hvl : val ((bs.drop p).take 4) < 4294967296 := by
              have h1 := val_lt ((bs.drop p).take 4) (fun c hc => SP.byte c (List.mem_of_mem_take hc))
              have h2 : ((bs.drop p).take 4).length = 4 := by rw [List.length_take, SP.length]; omega
              rw [h2] at h1
              simpa using h1
            have Hn : Hid (mNum bs k = ((val ((bs.drop p).take 4) : Nat) : Int)) := by show _ = _; unfold mNum; rw [hp]
            generalize val ((bs.drop p).take 4) = z at *
            have v3 : IntKind.i64.wrap ((z : Nat) : Int) = (z : Int) := by rw [IntKind.wrap_i64]; omega
            have Hr := Lib.hid (And.intro huj (And.intro how hB))
            clear SP huj how hB haa hnn hcc hp
            go_wp2_with fail
            refine RP.out.mono ?_
            rintro e w5 ⟨rfl, hb5⟩
            obtain ⟨huj, how, hB⟩ := Hr.out
            have how5 := how.kept (grown_of_below hb5 none) (by simp)
            have hkc5 := OwnV.cell how5 (k := k) (List.getElem?_eq_getElem (by omega))
            have hB5 := hB.trans (hb5.mono hB.size)
            have H5 := Lib.hid (And.intro huj (And.intro how5 hB5))
            clear huj how hB how5 hB5 hb5 Hr hkc RP
            go_wp2
            obtain ⟨huj, how5, hB5⟩ := H5.out
            refine ⟨⟨k + 1, us.set k (.int .i64 (z : Int)), by omega, by go_num, by rw [List.length_set]; exact hul, ?_, how5.set_ k _, hB5.setCell (p := ⟨g, k, none⟩) hgw _⟩, by simp [intOf]; omega⟩
            intro j hj
            rw [List.getElem?_set]
            by_cases e : k = j
            · subst e
              rw [if_pos rfl, if_pos (by omega), Hn.out]
            · rw [if_neg e]
              exact huj j (by omega)
          · have hkb : k = b0 := by omega
            subst hkb
            have hus : us = i64V (mList bs) := by
              rw [HLs.out]
              apply List.ext_getElem?
              intro j
              by_cases hj : j < k
              · rw [huj j hj, List.getElem?_map, List.getElem?_map, List.getElem?_range hj]
                rfl
              · rw [List.getElem?_eq_none (by omega), List.getElem?_eq_none (by simp; omega)]
            subst hus
            have RT := Lib.hid (mright_any (mList bs) (some ⟨g, 0, none⟩) k k wr (row_own how) (by rw [List.length_map] at hul; exact hul))
            have Hr := Lib.hid (And.intro how hB)
            clear huj how hB hul HLs
            generalize hok : mOk (mList bs) = ok at *
            have Hok := Lib.hid hok
            clear hok
            go_wp2_with fail
            refine RT.out.mono ?_
            rintro e w6 ⟨rfl, rfl⟩
            cases ok
            · go_wp2
              go_ret2
              exact ⟨.slice none 0 0, by rw [hg.out, if_neg (by simp)]; rfl, by rw [hg.out, if_neg (by simp)]; exact OwnV.nil_ _ _ _, Hr.out.2⟩
            · go_wp2
              go_ret2
              exact ⟨.slice (some ⟨g, 0, none⟩) k k, by rw [hg.out, if_pos trivial]; rfl, by rw [hg.out, if_pos trivial]; exact Hr.out.1, Hr.out.2⟩
      · have hxy2 : ((x4 : Int) == (y4 : Int)) = false := by simp; omega
        have hg : Hid (mGet bs = ([], 14)) := by
          show _ = _
          rw [HG.out, if_neg (by have := Hlq.out; omega), if_pos hxy]
        go_wp2
        go_ret2
        exact ⟨.slice none 0 0, by rw [hg.out]; rfl, by rw [hg.out]; exact OwnV.nil_ _ _ _, HB3.out⟩
    · have hlq2 : ((len : Int) == (q : Int)) = false := by simp; omega
      have hg : Hid (mGet bs = ([], 12)) := by show _ = _; rw [HG.out, if_pos (.inr (by have := Hq.out; omega))]
      clear hq
      go_enter Tryz.func141, Tryz.ntmps141
      go_wp2_with fail
      refine SZ.out.mono ?_
      rintro e w1 ⟨rfl, rfl⟩
      go_wp2
      go_ret2
      exact ⟨.slice none 0 0, by rw [hg.out]; rfl, by rw [hg.out]; exact OwnV.nil_ _ _ _, Below.refl _ _⟩
end
section
open Go.RowKit Go.Sort
open Crc Frm
attribute [local go_sem] Oper.semAt_some

/-- The files' names. -/
def mfS : ByteArray := ⟨#[109, 97, 110, 105, 102, 101, 115, 116]⟩
def nxS : ByteArray := ⟨#[109, 97, 110, 105, 102, 101, 115, 116, 46, 116, 109, 112]⟩
def mfL : List UInt8 := [109, 97, 110, 105, 102, 101, 115, 116]
def nxL : List UInt8 := [109, 97, 110, 105, 102, 101, 115, 116, 46, 116, 109, 112]
theorem OwnV.mono {w : World} {base base' : Nat} {e : TypeId} {v : Value} {us : List Value} (h : OwnV w base e v us) (hb : base' ≤ base) : OwnV w base' e v us := by
  refine ⟨h.1, ?_⟩
  rcases h.2 with h1 | ⟨g, cap, cur, hv, h1, h2⟩
  · exact .inl h1
  · exact .inr ⟨g, cap, cur, hv, Nat.le_trans hb h1, h2⟩
theorem Mv.still {w0 w w' : World} {dp : Nat} {O : Nat → Prop} {t : St} (h : DK w0 w dp t O) (hb : Below w.heap.size w w') : Mv w0 w dp O t w' := ⟨O, h.on hb, But.of_below hb, fun _ hk => .inl hk⟩
theorem Mv.behind {w0 w w1 w' : World} {dp : Nat} {O : Nat → Prop} {t : St} (hb : Below w.heap.size w w1) (h : Mv w0 w1 dp O t w') : Mv w0 w dp O t w' := by
  obtain ⟨O', h1, h2, h3⟩ := h
  exact ⟨O', h1, (But.of_below hb).trans h2 (fun _ hi => .inl hi), fun k hk => by rcases h3 k hk with h4 | h4; exact .inl h4; exact .inr (Nat.le_trans hb.size h4)⟩

/-- What Load tells. -/
def mLoad (t : St) : List Int × Nat := match fat t.D mfL with | none => ([], 3) | some f => mGet f.bs
set_option linter.unusedSimpArgs false in
set_option maxRecDepth 100000 in
set_option maxHeartbeats 3200000 in
theorem mload_any {w0 w : World} {dp : Nat} {t : St} {O : Nat → Prop} (h : DK w0 w dp t O) :
    Calls Tryz.prog 81 #[.pointer (some ⟨dp, 0, none⟩)] w fun e w' => ∃ v, e = .returned (.tuple #[v, .int .i64 (((mLoad t).2 : Nat) : Int)]) ∧ OwnV w' w.heap.size 2 v (i64V (mLoad t).1) ∧ Below w.heap.size w w' := by
  have RD := h.read mfS (by decide)
  have HF := fat_byte h.good mfL
  have HK := Lib.hid h
  change Calls _ _ _ _ (NewBytes w ((fat t.D mfL).getD Fl.zero).bs (fat t.D mfL).isSome) at RD
  have hb9 : ∀ f, fat t.D mfL = some f → f.bs.length ≤ 2000000 := fun f hf => by have := (h.good.at_ hf).2.2.2; have := h.good.tot_; have := h.good.room_; omega
  have HL : Hid (mLoad t = match fat t.D mfL with | none => ([], 3) | some f => mGet f.bs) := rfl
  have HF := Lib.hid HF
  clear h
  unfold mfS at RD
  cases hf : fat t.D mfL with
  | none =>
    rw [hf] at RD HL HF
    have RD := Lib.hid RD
    have hg : Hid (mLoad t = ([], 3)) := HL.out
    clear HL hb9 hf
    go_enter Tryz.func81, Tryz.ntmps81
    go_wp2_with fail
    refine RD.out.mono ?_
    rintro e w1 hN
    obtain ⟨x, xc, rfl, _, _, hb⟩ := NewBytes.out HK.out hN HF.out
    have HB := Lib.hid hb
    clear hN hb RD
    go_wp2
    go_ret2
    exact ⟨.slice none 0 0, by rw [hg.out]; rfl, by rw [hg.out]; exact OwnV.nil_ _ _ _, HB.out⟩
  | some f =>
    rw [hf] at RD HL HF
    have hl := hb9 f hf
    have RD := Lib.hid RD
    have hg : Hid (mLoad t = mGet f.bs) := HL.out
    clear HL hb9 hf
    go_enter Tryz.func81, Tryz.ntmps81
    go_wp2_with fail
    refine RD.out.mono ?_
    rintro e w1 hN
    obtain ⟨x, xc, rfl, hxs, _, hb⟩ := NewBytes.out HK.out hN HF.out
    have GT := Lib.hid (mget_any x f.bs.length xc f.bs w1 hxs hl)
    have HB := Lib.hid hb
    clear hN hb RD hxs
    go_wp2_with fail
    refine GT.out.mono ?_
    rintro e w2 ⟨v, rfl, hv, hb2⟩
    have H2 := Lib.hid (And.intro (hv.mono HB.out.size) (HB.out.trans (hb2.mono HB.out.size)))
    clear hv hb2 GT
    go_wp2
    go_ret2
    exact ⟨v, by rw [hg.out]; rfl, by rw [hg.out]; exact H2.out.1, H2.out.2⟩

/-- What deleteNext tells and leaves. -/
def delNext (t : St) : Int × St := if (fat t.D nxL).isSome = true then t.delete nxL else (0, t)
set_option linter.unusedSimpArgs false in
set_option maxRecDepth 100000 in
set_option maxHeartbeats 3200000 in
theorem delnext_any {w0 w : World} {dp : Nat} {t : St} {O : Nat → Prop} (h : DK w0 w dp t O) :
    Calls Tryz.prog 133 #[.pointer (some ⟨dp, 0, none⟩)] w fun e w' => e = .returned (.int .i64 (delNext t).1) ∧ Mv w0 w dp O (delNext t).2 w' := by
  have RD := h.read nxS (by decide)
  have HF := Lib.hid (fat_byte h.good nxL)
  have HK := Lib.hid h
  change Calls _ _ _ _ (NewBytes w ((fat t.D nxL).getD Fl.zero).bs (fat t.D nxL).isSome) at RD
  have DL := Lib.hid (fun (x : World) (hx : Below w.heap.size w x) => (HK.out.on hx).delete nxS (by decide))
  have HD : Hid (delNext t = if (fat t.D nxL).isSome = true then t.delete nxL else (0, t)) := rfl
  clear h
  unfold nxS at RD DL
  have RD := Lib.hid RD
  generalize (fat t.D nxL).isSome = is at *
  go_enter Tryz.func133, Tryz.ntmps133
  go_wp2_with fail
  refine RD.out.mono ?_
  rintro e w1 hN
  obtain ⟨x, xc, rfl, _, _, hb⟩ := NewBytes.out HK.out hN HF.out
  have HB := Lib.hid hb
  clear hN hb RD
  cases is with
  | false =>
    have hd : Hid (delNext t = (0, t)) := HD.out
    go_wp2
    go_ret
    exact ⟨by rw [hd.out]; rfl, by rw [hd.out]; exact Mv.still HK.out HB.out⟩
  | true =>
    have hd : Hid (delNext t = t.delete nxL) := HD.out
    go_wp2_with fail
    refine (DL.out _ HB.out).mono ?_
    rintro e w2 ⟨rfl, hmv⟩
    have HM := Lib.hid (Mv.behind HB.out hmv)
    clear hmv DL
    go_wp2
    go_ret
    exact ⟨by rw [hd.out]; rfl, by rw [hd.out]; exact HM.out⟩
end
end
section
set_option linter.unusedVariables false
set_option linter.unusedSimpArgs false
section
open Go.RowKit Go.Sort
open Crc Frm
attribute [local go_sem] Oper.semAt_some

set_option maxRecDepth 100000 in
set_option maxHeartbeats 1600000 in
theorem sw2_any {w0 w : World} {dp bd : Nat} {t : St} {O : Nat → Prop} (h : DK w0 w dp t O) (hd : w.cell? ⟨bd, 0, none⟩ = some (.pointer (some ⟨dp, 0, none⟩))) :
    Calls Tryz.prog 132 #[.pointer (some ⟨bd, 0, none⟩)] w fun e w' => e = .returned (.int .i64 (delNext t).1) ∧ Mv w0 w dp O (delNext t).2 w' := by
  have DL := Lib.hid (delnext_any h)
  clear h
  generalize delNext t = r at *
  go_enter Tryz.func132, Tryz.ntmps132
  go_wp2_with fail
  refine DL.out.mono ?_
  rintro e w1 ⟨rfl, hmv⟩
  have HM := Lib.hid hmv
  clear hmv DL
  go_wp2
  go_ret
  exact ⟨rfl, HM.out⟩
set_option maxRecDepth 100000 in
set_option maxHeartbeats 1600000 in
theorem sw4_any {w0 w : World} {dp bd : Nat} {t : St} {O : Nat → Prop} (h : DK w0 w dp t O) (hd : w.cell? ⟨bd, 0, none⟩ = some (.pointer (some ⟨dp, 0, none⟩))) :
    Calls Tryz.prog 136 #[.pointer (some ⟨bd, 0, none⟩)] w fun e w' => e = .returned (.int .i64 (t.sync nxL).1) ∧ Mv w0 w dp O (t.sync nxL).2 w' := by
  have DL := h.sync nxS (by decide)
  change Calls _ _ _ _ (fun e w' => e = .returned (.int .i64 (t.sync nxL).1) ∧ Mv w0 w dp O (t.sync nxL).2 w') at DL
  unfold nxS at DL
  have DL := Lib.hid DL
  clear h
  generalize t.sync nxL = r at *
  go_enter Tryz.func136, Tryz.ntmps136
  go_wp2_with fail
  refine DL.out.mono ?_
  rintro e w1 ⟨rfl, hmv⟩
  have HM := Lib.hid hmv
  clear hmv DL
  go_wp2
  go_ret
  exact ⟨rfl, HM.out⟩
set_option maxRecDepth 100000 in
set_option maxHeartbeats 1600000 in
theorem sw5_any {w0 w : World} {dp bd : Nat} {t : St} {O : Nat → Prop} (h : DK w0 w dp t O) (hd : w.cell? ⟨bd, 0, none⟩ = some (.pointer (some ⟨dp, 0, none⟩))) :
    Calls Tryz.prog 137 #[.pointer (some ⟨bd, 0, none⟩)] w fun e w' => e = .returned (.int .i64 (t.rename nxL mfL).1) ∧ Mv w0 w dp O (t.rename nxL mfL).2 w' := by
  have DL := h.rename nxS mfS (by decide) (by decide)
  change Calls _ _ _ _ (fun e w' => e = .returned (.int .i64 (t.rename nxL mfL).1) ∧ Mv w0 w dp O (t.rename nxL mfL).2 w') at DL
  unfold nxS mfS at DL
  have DL := Lib.hid DL
  clear h
  generalize t.rename nxL mfL = r at *
  go_enter Tryz.func137, Tryz.ntmps137
  go_wp2_with fail
  refine DL.out.mono ?_
  rintro e w1 ⟨rfl, hmv⟩
  have HM := Lib.hid hmv
  clear hmv DL
  go_wp2
  go_ret
  exact ⟨rfl, HM.out⟩
theorem mPut_len (l : List Int) : (mPut l).length ≤ 2000 := by
  unfold mPut
  split
  · next h =>
    have h1 := (mOk_all h).2.1
    have h2 := mNums_len l
    simp only [mRaw, mSum, List.length_append, List.length_cons, be_len]
    omega
  · simp
theorem mPut_byte (l : List Int) : ∀ c ∈ mPut l, c < 256 := by
  intro c hc
  unfold mPut at hc
  split at hc
  · next h =>
    rcases List.mem_append.1 hc with h1 | h1
    · rcases List.mem_cons.1 h1 with rfl | h2
      · have := (mOk_all h).2.1; omega
      · exact mNums_byte l c h2
    · exact be_byte _ _ c h1
  · cases hc
set_option linter.unusedSimpArgs false in
set_option maxRecDepth 100000 in
set_option maxHeartbeats 3200000 in
theorem sw3_any {w0 w : World} {dp bd bl : Nat} {t : St} {O : Nat → Prop} (h : DK w0 w dp t O) (hd : w.cell? ⟨bd, 0, none⟩ = some (.pointer (some ⟨dp, 0, none⟩))) (l : List Int) (a : Option Addr) (n c : Nat)
    (hl : w.cell? ⟨bl, 0, none⟩ = some (.slice a n c)) (hr : Row w w.heap.size a n c 1 (intsC l)) (hn : l.length = n) (hdO : ¬ O bd) (hlO : ¬ O bl) :
    Calls Tryz.prog 134 #[.pointer (some ⟨bd, 0, none⟩), .pointer (some ⟨bl, 0, none⟩)] w fun e w' => e = .returned (.int .i64 (t.write nxL (mPut l)).1) ∧ Mv w0 w dp O (t.write nxL (mPut l)).2 w' := by
  have PT := Lib.hid (mput_any l a n c w.drew (row_drew hr) hn)
  have hpl := mPut_len l
  have hpb := Lib.hid (mPut_byte l)
  have HK := Lib.hid (And.intro h (And.intro hdO hlO))
  have hbd := block_lt_of_cell hd
  have hbl := block_lt_of_cell hl
  clear h hdO hlO hr
  obtain ⟨r, hr9⟩ : ∃ r, r = t.write nxL (mPut l) := ⟨_, rfl⟩
  rw [← hr9]
  have HR9 := Lib.hid hr9
  clear hr9
  go_enter Tryz.func134, Tryz.ntmps134
  go_wp2_with fail
  refine wp_region_held_drew (S := fun x => x.cell? ⟨bd, 0, none⟩ = some (.pointer (some ⟨dp, 0, none⟩)) ∧ x.cell? ⟨bl, 0, none⟩ = some (.slice a n c)) (by kernel_rfl) ⟨hd, hl⟩ (fun hHeld => ?_)
  refine wpAnyH_take (i := 0) (v := ?_) rfl (by kernel_rfl) (by kernel_rfl) (by kernel_rfl) (fun _ _ _ h => h) (Or.inl ⟨by rfl, ?_⟩) (by assumption) ?_
  rotate_left
  · intro w hSw
    (try dsimp only at hSw)
    go_simp
    all_goals with_reducible rfl
  try simp only [Act.put, List.getElem_toArray, List.getElem_cons_succ, List.getElem_cons_zero, List.setIfInBounds_toArray, List.set_cons_zero, List.set_cons_succ]
  refine wpAnyH_take (i := 1) (v := ?_) rfl (by kernel_rfl) (by kernel_rfl) (by kernel_rfl) (fun _ _ _ h => h) (Or.inl ⟨by rfl, ?_⟩) (by assumption) ?_
  rotate_left
  · intro w hSw
    (try dsimp only at hSw)
    go_simp
    all_goals with_reducible rfl
  try simp only [Act.put, List.getElem_toArray, List.getElem_cons_succ, List.getElem_cons_zero, List.setIfInBounds_toArray, List.set_cons_zero, List.set_cons_succ]
  refine wpAnyH_ready (rs := [2]) (by kernel_rfl) (by simp) ?_
  refine AllReadyH.cons rfl (fun K hK => ?_) AllReadyH.nil
  rw [if_pos (by rfl)]
  go_simp
  go_at_call 135
  refine PT.out.mono ?_
  rintro e w1 ⟨v, rfl, hv, hb1⟩
  have hb1' : Below w.heap.size w w1 := below_drew_of hb1
  have k1 := (hb1'.cell (p := ⟨bd, 0, none⟩) hbd).trans hd
  have k2 := (hb1'.cell (p := ⟨bl, 0, none⟩) hbl).trans hl
  obtain ⟨va, vc, rfl, hvs, hvb⟩ := hv.sl_base hpb.out
  have WR := (HK.out.1.on hb1').write nxS (by decide) va _ vc _ hvs (by omega) (fun _ k o e ho => by have h1 := hvb k o e; have h2 := HK.out.1.lt k ho; have h3 : w.drew.heap.size = w.heap.size := rfl; omega)
  change Calls _ _ _ _ (fun e w' => e = .returned (.int .i64 (t.write nxL (mPut l)).1) ∧ Mv w0 w1 dp O (t.write nxL (mPut l)).2 w') at WR
  unfold nxS at WR
  rw [← HR9.out] at WR
  have WR := Lib.hid WR
  have HB := Lib.hid hb1'
  clear hv hb1 hvs hvb hb1' PT
  generalize (mPut l).length = pn at *
  refine hK.out _ _ ?_ (fun hHeld => ?_)
  · exact ⟨k1, k2⟩
  clear hK K
  try simp only [Act.put, List.getElem_toArray, List.getElem_cons_succ, List.getElem_cons_zero, List.setIfInBounds_toArray, List.set_cons_zero, List.set_cons_succ]
  refine wpAnyH_ready (rs := [3]) (by kernel_rfl) (by simp) ?_
  refine AllReadyH.cons rfl (fun K hK => ?_) AllReadyH.nil
  rw [if_pos (by rfl)]
  go_simp
  go_at_call 63
  refine WR.out.mono ?_
  rintro e w2 ⟨rfl, hmv⟩
  have j1 := (hmv.far.choose_spec.2.1.cell (b := bd) (o := 0) (Nat.lt_of_lt_of_le hbd HB.out.size) HK.out.2.1).trans k1
  have j2 := (hmv.far.choose_spec.2.1.cell (b := bl) (o := 0) (Nat.lt_of_lt_of_le hbl HB.out.size) HK.out.2.2).trans k2
  have HM := Lib.hid (Mv.behind HB.out hmv)
  clear hmv WR
  refine hK.out _ _ ?_ (fun hHeld => ?_)
  · exact ⟨j1, j2⟩
  clear hK K
  try simp only [Act.put, List.getElem_toArray, List.getElem_cons_succ, List.getElem_cons_zero, List.setIfInBounds_toArray, List.set_cons_zero, List.set_cons_succ]
  refine wpAnyH_take (i := 4) (v := ?_) rfl (by kernel_rfl) (by kernel_rfl) (by kernel_rfl) (fun _ _ _ h => h) (Or.inl ⟨by rfl, ?_⟩) (by assumption) ?_
  rotate_left
  · intro w hSw
    (try dsimp only at hSw)
    go_simp
    all_goals with_reducible rfl
  try simp only [Act.put, List.getElem_toArray, List.getElem_cons_succ, List.getElem_cons_zero, List.setIfInBounds_toArray, List.set_cons_zero, List.set_cons_succ]
  refine wpAnyH_done (by kernel_rfl) ?_ _
  clear hHeld
  go_wp2
  go_ret
  exact ⟨rfl, HM.out⟩
end
section
open Go.RowKit Go.Sort
open Crc Frm
attribute [local go_sem] Oper.semAt_some

set_option linter.unusedSimpArgs false in
set_option maxRecDepth 100000 in
set_option maxHeartbeats 1600000 in
/-- Calls in turn: what each needs and leaves, and what is told at the first error. -/
theorem inturn_any (n : Nat) (fs : Nat → FuncId) (cs : Nat → Array Value) (g : Nat) (w : World) (J : Nat → World → Prop) (R : Int → World → Prop) (hn : n ≤ 1000)
    (hcell : ∀ k w', k < n → J k w' → w'.cell? ⟨g, k, none⟩ = some (.func (.func (fs k)) #[] (cs k)))
    (hc : ∀ k x, k < n → (callFunc (fs k) (cs k)).run Tryz.prog x = .ok (.enter (fs k) (cs k)) x)
    (hcall : ∀ k w', k < n → J k w' → Calls Tryz.prog (fs k) (cs k) w' fun e w'' => ∃ x, e = .returned (.int .i64 x) ∧ (x = 0 → J (k + 1) w'') ∧ (x ≠ 0 → R x w''))
    (hend : ∀ w', J n w' → R 0 w') (h0 : J 0 w) :
    Calls Tryz.prog 131 #[.slice (some ⟨g, 0, none⟩) n n] w fun e w' => ∃ x, e = .returned (.int .i64 x) ∧ R x w' := by
  have HC := Lib.hid hcell
  have HL := Lib.hid hcall
  have HE := Lib.hid hend
  have HF := Lib.hid hc
  have H0 := Lib.hid h0
  clear hcell hc hcall hend h0
  go_enter Tryz.func131, Tryz.ntmps131
  go_wp2_with fail
  go_loopw [4, 5, 8] (fun _ _ i wr => ∃ k : Nat, k ≤ n ∧ i = .int .i64 (k : Int) ∧ J k wr) (fun _ _ i _ => n - (intOf i).toNat)
  case atStart => exact ⟨0, Nat.zero_le _, rfl, H0.out⟩
  case round =>
    obtain ⟨k, hk, rfl, hj⟩ := hrel
    by_cases hlt : k < n
    · have c0 := HC.out k wr hlt hj
      have cf := fun x => HF.out k x hlt
      have CL := Lib.hid (HL.out k wr hlt hj)
      have c1 : wr.cell? ⟨g, 0 + k, none⟩ = some (.func (.func (fs k)) #[] (cs k)) := by rw [Nat.zero_add]; exact c0
      clear hj
      generalize fs k = fk at *
      generalize cs k = ck at *
      go_wp2_with fail
      refine CL.out.mono ?_
      rintro e w1 ⟨x, rfl, hx0, hx1⟩
      have X0 := Lib.hid hx0
      have X1 := Lib.hid hx1
      clear hx0 hx1 CL c0 c1 cf
      by_cases hx : x = 0
      · subst hx
        go_wp2
        go_roundw
        case rel => exact ⟨k + 1, by omega, by go_num, X0.out (by trivial)⟩
        case measure => simp [intOf]; omega
      · go_wp2
        go_ret
        exact ⟨x, rfl, X1.out hx⟩
    · have hkn : k = n := by omega
      subst hkn
      have HJ := Lib.hid hj
      clear hj
      go_wp2
      go_ret
      exact ⟨0, rfl, HE.out _ HJ.out⟩

/-- What the deferred call leaves. -/
def mClean (x : Int) (t : St) : St := if x ≠ 0 ∧ x ≠ 42 then (t.delete nxL).2 else t
set_option maxRecDepth 100000 in
set_option maxHeartbeats 1600000 in
theorem sw1_any {w0 w : World} {dp bd be : Nat} {t : St} {O : Nat → Prop} (h : DK w0 w dp t O) (x : Int) (u : FrameMode) (hd : w.cell? ⟨bd, 0, none⟩ = some (.pointer (some ⟨dp, 0, none⟩))) (he : w.cell? ⟨be, 0, none⟩ = some (.int .i64 x)) :
    CallsD Tryz.prog 130 #[.pointer (some ⟨be, 0, none⟩), .pointer (some ⟨bd, 0, none⟩)] u w fun e u' w' => u' = u ∧ (e = .returned (.tuple #[]) ∧ Mv w0 w dp O (mClean x t) w') := by
  have DL := h.delete nxS (by decide)
  change Calls _ _ _ _ (fun e w' => e = .returned (.int .i64 (t.delete nxL).1) ∧ Mv w0 w dp O (t.delete nxL).2 w') at DL
  unfold nxS at DL
  have DL := Lib.hid DL
  have HS := Lib.hid (Mv.still h (Below.refl _ _))
  have HC : Hid (mClean x t = if x ≠ 0 ∧ x ≠ 42 then (t.delete nxL).2 else t) := rfl
  clear h
  generalize t.delete nxL = r at *
  by_cases h0 : x = 0
  · subst h0
    have hc : Hid (mClean 0 t = t) := HC.out.trans (if_neg (by simp))
    go_enter_d Tryz.func130, Tryz.ntmps130
    go_wp2
    go_end0
    exact ⟨rfl, by rw [hc.out]; exact HS.out⟩
  by_cases h1 : x = 42
  · subst h1
    have hc : Hid (mClean 42 t = t) := HC.out.trans (if_neg (by simp))
    go_enter_d Tryz.func130, Tryz.ntmps130
    go_wp2
    go_end0
    exact ⟨rfl, by rw [hc.out]; exact HS.out⟩
  · have hc : Hid (mClean x t = r.2) := HC.out.trans (if_pos ⟨h0, h1⟩)
    have x0 : (x != 0) = true := by simp [h0]
    have x1 : (x != 42) = true := by simp [h1]
    have y0 : (x == 0) = false := by simp [h0]
    have y1 : (x == 42) = false := by simp [h1]
    go_enter_d Tryz.func130, Tryz.ntmps130
    go_wp2_with fail
    refine DL.out.mono ?_
    rintro e w1 ⟨rfl, hmv⟩
    have HM := Lib.hid hmv
    clear hmv DL
    go_wp2
    go_end0
    exact ⟨rfl, by rw [hc.out]; exact HM.out⟩
end
section
open Go.RowKit Go.Sort
open Crc Frm
attribute [local go_sem] Oper.semAt_some

/-- What the four calls leave, one behind the other, and what they tell. -/
def mSt (t : St) (l : List Int) : Nat → St
  | 0 => t
  | 1 => (delNext t).2
  | 2 => ((delNext t).2.write nxL (mPut l)).2
  | 3 => (((delNext t).2.write nxL (mPut l)).2.sync nxL).2
  | _ => ((((delNext t).2.write nxL (mPut l)).2.sync nxL).2.rename nxL mfL).2
def mAns (t : St) (l : List Int) : Nat → Int
  | 0 => (delNext t).1
  | 1 => ((mSt t l 1).write nxL (mPut l)).1
  | 2 => ((mSt t l 2).sync nxL).1
  | _ => ((mSt t l 3).rename nxL mfL).1
def mTurn (t : St) (l : List Int) : Int × St :=
  if mAns t l 0 ≠ 0 then (mAns t l 0, mSt t l 1) else if mAns t l 1 ≠ 0 then (mAns t l 1, mSt t l 2) else if mAns t l 2 ≠ 0 then (mAns t l 2, mSt t l 3) else (mAns t l 3, mSt t l 4)
/-- What Swap tells and leaves. -/
def mSwap (t : St) (l : List Int) : Int × St := if mOk l = true then ((mTurn t l).1, mClean (mTurn t l).1 (mTurn t l).2) else (1, t)
theorem turn_stop (t : St) (l : List Int) (k : Nat) (hk : k < 4) (h0 : ∀ j, j < k → mAns t l j = 0) (h1 : mAns t l k ≠ 0) : mTurn t l = (mAns t l k, mSt t l (k + 1)) := by
  unfold mTurn
  match k, hk with
  | 0, _ => rw [if_pos h1]
  | 1, _ => rw [if_neg (by simp [h0 0 (by omega)]), if_pos h1]
  | 2, _ => rw [if_neg (by simp [h0 0 (by omega)]), if_neg (by simp [h0 1 (by omega)]), if_pos h1]
  | 3, _ => rw [if_neg (by simp [h0 0 (by omega)]), if_neg (by simp [h0 1 (by omega)]), if_neg (by simp [h0 2 (by omega)])]
theorem turn_end (t : St) (l : List Int) (h0 : ∀ j, j < 4 → mAns t l j = 0) : mTurn t l = (0, mSt t l 4) := by
  unfold mTurn
  rw [if_neg (by simp [h0 0 (by omega)]), if_neg (by simp [h0 1 (by omega)]), if_neg (by simp [h0 2 (by omega)]), h0 3 (by omega)]

abbrev swF : Nat → FuncId
  | 0 => 132
  | 1 => 134
  | 2 => 136
  | _ => 137
abbrev swC (bd bl : Nat) : Nat → Array Value
  | 1 => #[.pointer (some ⟨bd, 0, none⟩), .pointer (some ⟨bl, 0, none⟩)]
  | _ => #[.pointer (some ⟨bd, 0, none⟩)]

theorem Mv.then {w0 w w1 w' : World} {dp : Nat} {O O1 : Nat → Prop} {t : St} (hb : But O w w1) (hO : ∀ k, O1 k → O k ∨ w.heap.size ≤ k) (h : Mv w0 w1 dp O1 t w') : Mv w0 w dp O t w' := by
  obtain ⟨O', h1, h2, h3⟩ := h
  exact ⟨O', h1, hb.trans h2 hO, fun k hk => by rcases h3 k hk with h4 | h4; exact hO k h4; exact .inr (Nat.le_trans hb.size h4)⟩

/-- The four calls. -/
theorem swaps_any {w0 w : World} {dp bd bl g : Nat} {t : St} {O : Nat → Prop} (h : DK w0 w dp t O) (l : List Int) (a : Option Addr) (n c : Nat)
    (hd : w.cell? ⟨bd, 0, none⟩ = some (.pointer (some ⟨dp, 0, none⟩))) (hl : w.cell? ⟨bl, 0, none⟩ = some (.slice a n c)) (hr : Row w w.heap.size a n c 1 (intsC l)) (hn : l.length = n)
    (hdO : ¬ O bd) (hlO : ¬ O bl) (hgO : ¬ O g) (hfar : 0 < n → ∀ k o, a = some ⟨k, o, none⟩ → ¬ O k) (hg : ∀ k, k < 4 → w.cell? ⟨g, k, none⟩ = some (.func (.func (swF k)) #[] (swC bd bl k))) :
    Calls Tryz.prog 131 #[.slice (some ⟨g, 0, none⟩) 4 4] w fun e w' => ∃ x, e = .returned (.int .i64 x) ∧ (x = (mTurn t l).1 ∧ Mv w0 w dp O (mTurn t l).2 w') := by
  have hbd := block_lt_of_cell hd
  have hbl := block_lt_of_cell hl
  have hbg := block_lt_of_cell (hg 0 (by omega))
  have k2 : ∀ x : World, (callFunc 132 #[.pointer (some ⟨bd, 0, none⟩)]).run Tryz.prog x = .ok (.enter 132 #[.pointer (some ⟨bd, 0, none⟩)]) x := fun x => by kernel_rfl
  have k3 : ∀ x : World, (callFunc 134 #[.pointer (some ⟨bd, 0, none⟩), .pointer (some ⟨bl, 0, none⟩)]).run Tryz.prog x = .ok (.enter 134 #[.pointer (some ⟨bd, 0, none⟩), .pointer (some ⟨bl, 0, none⟩)]) x := fun x => by kernel_rfl
  have k4 : ∀ x : World, (callFunc 136 #[.pointer (some ⟨bd, 0, none⟩)]).run Tryz.prog x = .ok (.enter 136 #[.pointer (some ⟨bd, 0, none⟩)]) x := fun x => by kernel_rfl
  have k5 : ∀ x : World, (callFunc 137 #[.pointer (some ⟨bd, 0, none⟩)]).run Tryz.prog x = .ok (.enter 137 #[.pointer (some ⟨bd, 0, none⟩)]) x := fun x => by kernel_rfl
  refine inturn_any 4 swF (swC bd bl) g w (fun k w' => (∀ j, j < k → mAns t l j = 0) ∧ Mv w0 w dp O (mSt t l k) w') (fun x w' => x = (mTurn t l).1 ∧ Mv w0 w dp O (mTurn t l).2 w') (by omega) ?_ ?_ ?_ ?_ ?_
  · rintro k w' hk ⟨_, O', _, hb, _⟩
    exact (hb.cell hbg hgO).trans (hg k hk)
  · intro k x hk
    match k, hk with
    | 0, _ => exact k2 x
    | 1, _ => exact k3 x
    | 2, _ => exact k4 x
    | 3, _ => exact k5 x
  · rintro k w' hk ⟨h0, hmv⟩
    have hout : ∀ w'', Mv w0 w dp O (mSt t l (k + 1)) w'' → (mAns t l k = 0 → (∀ j, j < k + 1 → mAns t l j = 0) ∧ Mv w0 w dp O (mSt t l (k + 1)) w'') ∧ (mAns t l k ≠ 0 → mAns t l k = (mTurn t l).1 ∧ Mv w0 w dp O (mTurn t l).2 w'') := by
      intro w'' hm
      refine ⟨fun hz => ⟨fun j hj => ?_, hm⟩, fun hz => ?_⟩
      · by_cases hjk : j = k
        · rw [hjk]; exact hz
        · exact h0 j (by omega)
      · rw [turn_stop t l k hk h0 hz]
        exact ⟨rfl, hm⟩
    obtain ⟨O', hk1, hb, hO⟩ := hmv
    have d1 := (hb.cell (o := 0) hbd hdO).trans hd
    have l1 := (hb.cell (o := 0) hbl hlO).trans hl
    have nO : ∀ i, i < w.heap.size → ¬ O i → ¬ O' i := fun i hi hn ho => by rcases hO i ho with h4 | h4; exact hn h4; omega
    match k, hk with
    | 0, _ => exact (sw2_any hk1 d1).mono fun e w'' ⟨he, hm⟩ => ⟨_, he, hout w'' (Mv.then hb hO hm)⟩
    | 1, _ => exact (sw3_any hk1 d1 l a n c l1 (hr.but hb hfar) hn (nO _ hbd hdO) (nO _ hbl hlO)).mono fun e w'' ⟨he, hm⟩ => ⟨_, he, hout w'' (Mv.then hb hO hm)⟩
    | 2, _ => exact (sw4_any hk1 d1).mono fun e w'' ⟨he, hm⟩ => ⟨_, he, hout w'' (Mv.then hb hO hm)⟩
    | 3, _ => exact (sw5_any hk1 d1).mono fun e w'' ⟨he, hm⟩ => ⟨_, he, hout w'' (Mv.then hb hO hm)⟩
  · rintro w' ⟨h0, hm⟩
    rw [turn_end t l h0]
    exact ⟨rfl, hm⟩
  · exact ⟨fun j hj => absurd hj (by omega), O, h, But.refl _ _, fun k hk => .inl hk⟩
end
section
open Go.RowKit Go.Sort
open Crc Frm
attribute [local go_sem] Oper.semAt_some

theorem DK.setOut {w0 w : World} {dp : Nat} {t : St} {O : Nat → Prop} (h : DK w0 w dp t O) (p : Addr) (u : Value) (hp : ¬ O p.block) (hb : w0.heap.size ≤ p.block) : DK w0 (w.setCell p u) dp t O :=
  ⟨Dsk.but h.is ((But.refl (fun k => k = p.block) w).setCell (.inl rfl) u) (fun k hk e => hp (e ▸ hk)), h.base, h.below.setCell hb u⟩
theorem Row.on9 {w w' : World} {a : Option Addr} {n c m : Nat} {cs : Nat → Value} (h : Row w w.heap.size a n c m cs) (hb : Below w.heap.size w w') : Row w' w'.heap.size a n c m cs := (h.below hb (Nat.le_refl _)).more hb.size
set_option linter.unusedSimpArgs false in
set_option maxRecDepth 100000 in
set_option maxHeartbeats 3200000 in
theorem mswap_any {w0 w : World} {dp : Nat} {t : St} {O : Nat → Prop} (h : DK w0 w dp t O) (l : List Int) (a : Option Addr) (n c : Nat) (hr : Row w w.heap.size a n c 1 (intsC l)) (hn : l.length = n)
    (hfar : 0 < n → ∀ k o, a = some ⟨k, o, none⟩ → ¬ O k) :
    Calls Tryz.prog 76 #[.pointer (some ⟨dp, 0, none⟩), .slice a n c] w fun e w' => e = .returned (.int .i64 (mSwap t l).1) ∧ Mv w0 w dp O (mSwap t l).2 w' := by
  have hmf : ∀ (fn : Fn) (first cap : Array Value) (w : World), (Instr.makeFunc fn first cap).run Tryz.prog w = .ok (.func fn first cap) w := fun _ _ _ _ => rfl
  have hlt := h.lt
  obtain ⟨w3, hw3⟩ : ∃ w3, w3 = ((w.alloc (.cells #[.pointer (some ⟨dp, 0, none⟩)] 24)).alloc (.cells #[.slice a n c] 50)).alloc (.cells #[.int .i64 0] 30) := ⟨_, rfl⟩
  have hB3 : Below w.heap.size w w3 := by rw [hw3]; exact (((Below.refl _ _).alloc (Nat.le_refl _) _).alloc (by simp) _).alloc (by simp; omega) _
  have hs3 : w3.heap.size = w.heap.size + 3 := by rw [hw3]; simp
  have R := Lib.hid (mright_any l a n c w3 (hr.below hB3 (Nat.le_refl _) |>.more hB3.size) hn)
  rw [hw3] at R
  have HK := Lib.hid (And.intro h (And.intro hr (And.intro hn hfar)))
  clear h hr hn hfar
  by_cases hok : mOk l = true
  · have hsw : Hid (mSwap t l = ((mTurn t l).1, mClean (mTurn t l).1 (mTurn t l).2)) := if_pos hok
    rw [hok] at R
    go_enter_defers Tryz.func76, Tryz.ntmps76
    go_wp2_with fail
    refine R.out.mono ?_
    rintro e w1 ⟨rfl, rfl⟩
    obtain ⟨w4, hw4⟩ : ∃ w4, w4 = w3.alloc (.cells #[.func (.func 132) #[] #[.pointer (some ⟨w.heap.size, 0, none⟩)], .func (.func 134) #[] #[.pointer (some ⟨w.heap.size, 0, none⟩), .pointer (some ⟨w.heap.size + 1, 0, none⟩)],
      .func (.func 136) #[] #[.pointer (some ⟨w.heap.size, 0, none⟩)], .func (.func 137) #[] #[.pointer (some ⟨w.heap.size, 0, none⟩)]] 69) := ⟨_, rfl⟩
    have hB4 : Below w.heap.size w w4 := by rw [hw4]; exact hB3.alloc hB3.size _
    have hs4 : w4.heap.size = w.heap.size + 4 := by rw [hw4]; simp [hs3]
    have hd4 : w4.cell? ⟨w.heap.size, 0, none⟩ = some (.pointer (some ⟨dp, 0, none⟩)) := by rw [hw4, hw3]; simp [go_sem]
    have hl4 : w4.cell? ⟨w.heap.size + 1, 0, none⟩ = some (.slice a n c) := by rw [hw4, hw3]; simp [go_sem]
    have he4 : w4.cell? ⟨w.heap.size + 2, 0, none⟩ = some (.int .i64 0) := by rw [hw4, hw3]; simp [go_sem]
    have hz4 : w4.frozen? ⟨w.heap.size + 2, 0, none⟩ = false := by rw [hw4, hw3]; simp [go_sem]
    have hg4 : ∀ k, k < 4 → w4.cell? ⟨w.heap.size + 3, k, none⟩ = some (.func (.func (swF k)) #[] (swC w.heap.size (w.heap.size + 1) k)) := by
      intro k hk
      rw [hw4, ← hs3]
      match k, hk with
      | 0, _ => exact (cell_of_row _ _ 0 _ _ _ (heap_alloc_new w3 _)).trans rfl
      | 1, _ => exact (cell_of_row _ _ 1 _ _ _ (heap_alloc_new w3 _)).trans rfl
      | 2, _ => exact (cell_of_row _ _ 2 _ _ _ (heap_alloc_new w3 _)).trans rfl
      | 3, _ => exact (cell_of_row _ _ 3 _ _ _ (heap_alloc_new w3 _)).trans rfl
    have IT := swaps_any (HK.out.1.on hB4) l a n c hd4 hl4 (HK.out.2.1.on9 hB4) HK.out.2.2.1 (fun ho => by have := hlt _ ho; omega) (fun ho => by have := hlt _ ho; omega) (fun ho => by have := hlt _ ho; omega) HK.out.2.2.2 hg4
    have H4 := Lib.hid (And.intro hB4 (And.intro hs4 (And.intro hd4 (And.intro he4 hz4))))
    rw [hw4, hw3] at IT
    have IT := Lib.hid IT
    clear hg4 hl4 hB4 hs4 hd4 he4 hz4 R
    go_wp2_with fail
    refine IT.out.mono ?_
    rintro e w5 ⟨x, rfl, hx, hmv⟩
    rw [← hw3, ← hw4] at hmv
    obtain ⟨O5, k5, b5, f5⟩ := hmv
    have d5 := (b5.cell (b := w.heap.size) (o := 0) (by have := H4.out.2.1; omega) (fun ho => by have := hlt _ ho; omega)).trans H4.out.2.2.1
    have e5 := (b5.cell (b := w.heap.size + 2) (o := 0) (by have := H4.out.2.1; omega) (fun ho => by have := hlt _ ho; omega)).trans H4.out.2.2.2.1
    have z5 := (b5.frozen (b := w.heap.size + 2) (o := 0) (by have := H4.out.2.1; omega) (fun ho => by have := hlt _ ho; omega)).trans H4.out.2.2.2.2
    have q5 : w.heap.size + 2 = w.heap.size + 1 + 1 := rfl
    rw [q5] at e5 z5
    have H5 := Lib.hid (And.intro k5 (And.intro b5 (And.intro f5 (And.intro hx d5))))
    clear k5 b5 f5 hx IT d5
    go_wp2_with fail
    have hbe : ¬ O5 (w.heap.size + 1 + 1) := fun ho => by
      rcases H5.out.2.2.1 _ ho with h1 | h1
      · have := hlt _ h1; omega
      · have := H4.out.2.1; omega
    have hbd : ¬ O5 w.heap.size := fun ho => by
      rcases H5.out.2.2.1 _ ho with h1 | h1
      · have := hlt _ h1; omega
      · have := H4.out.2.1; omega
    have hs5 : w.heap.size + 4 ≤ w5.heap.size := by have := H5.out.2.1.size; have := H4.out.2.1; omega
    obtain ⟨w6, hw6⟩ : ∃ w6, w6 = w5.setCell ⟨w.heap.size + 1 + 1, 0, none⟩ (.int .i64 x) := ⟨_, rfl⟩
    have k6 : DK w0 w6 dp (mTurn t l).2 O5 := by rw [hw6]; exact H5.out.1.setOut ⟨w.heap.size + 1 + 1, 0, none⟩ _ hbe (by have := HK.out.1.below.size; show _ ≤ w.heap.size + 1 + 1; omega)
    have e6 : w6.cell? ⟨w.heap.size + 1 + 1, 0, none⟩ = some (.int .i64 x) := by rw [hw6]; exact World.cell?_setCell_same _ _ _ e5
    have d6 : w6.cell? ⟨w.heap.size, 0, none⟩ = some (.pointer (some ⟨dp, 0, none⟩)) := by rw [hw6]; exact cell_set_far H5.out.2.2.2.2 (by show w.heap.size ≠ w.heap.size + 1 + 1; omega)
    have b6 : But O w w6 := by
      rw [hw6]
      exact (((But.of_below (O := O) H4.out.1).trans H5.out.2.1 (fun _ hi => .inl hi)).setCell (p := ⟨w.heap.size + 1 + 1, 0, none⟩) (.inr (by show _ ≤ w.heap.size + 1 + 1; omega)) _)
    have hO6 : ∀ k, O5 k → O k ∨ w.heap.size ≤ k := fun k hk => by
      rcases H5.out.2.2.1 k hk with h1 | h1
      · exact .inl h1
      · right; have := H4.out.2.1; omega
    have hs6 : w5.heap.size ≤ w6.heap.size := by rw [hw6]; simp
    rw [← hw6]
    refine leaves_cons (f := 130) (args := #[.pointer (some ⟨w.heap.size + 1 + 1, 0, none⟩), .pointer (some ⟨w.heap.size, 0, none⟩)]) (by simp) (by simp [go_sem]) ?_
    refine (sw1_any k6 x .returning d6 e6).mono ?_
    rintro e u' w7 ⟨rfl, rfl, hmv⟩
    have e7 : w7.cell? ⟨w.heap.size + 1 + 1, 0, none⟩ = some (.int .i64 x) := by
      obtain ⟨O7, _, b7, _⟩ := hmv
      exact (b7.cell (b := w.heap.size + 1 + 1) (o := 0) (by omega) hbe).trans e6
    refine ⟨_, (by simp [results, Tryz.results76, go_sem, e7]; rfl), ?_⟩
    have hx := H5.out.2.2.2.1
    rw [hsw.out]
    refine ⟨by rw [hx], ?_⟩
    rw [hx] at hmv
    exact Mv.then b6 hO6 hmv
  · have hsw : Hid (mSwap t l = (1, t)) := if_neg hok
    have hno : mOk l = false := by simpa using hok
    rw [hno] at R
    go_enter_defers Tryz.func76, Tryz.ntmps76
    go_wp2_with fail
    refine R.out.mono ?_
    rintro e w1 ⟨rfl, rfl⟩
    go_wp2
    refine ⟨_, (by simp [results, Tryz.results76, go_sem]; rfl), ?_⟩
    rw [hsw.out]
    refine ⟨rfl, Mv.still HK.out.1 ?_⟩
    exact (((Below.refl _ _).alloc (Nat.le_refl _) _).alloc (by simp) _).alloc (by simp; omega) _
end
end
section
namespace Sgn
set_option linter.unusedSimpArgs false
set_option linter.unusedVariables false
open Go.Lib

/-- The name of a number, the number of a name. -/
def nm (n : Int) : List UInt8 := if 0 ≤ n ∧ n ≤ 1073741824 then 115 :: (repeatL [48] (10 - (itoa n).length) ++ itoa n) else []
def fst (l : List UInt8) : Int × Bool := match parseIntB 64 (trimPrefix l [115]) with
  | .ok v => if nm v = l then (v, true) else (0, false)
  | _ => (0, false)

theorem nDigits_le (k : Nat) : ∀ u, u < 10 ^ (k + 1) → nDigits u ≤ k + 1 := by
  induction k with
  | zero => intro u h; rw [nDigits_small (by simpa using h)]; exact Nat.le_refl _
  | succ k ih =>
    intro u h
    by_cases h9 : u < 10
    · rw [nDigits_small h9]; omega
    · rw [nDigits_big h9]
      have := ih (u / 10) (by rw [Nat.pow_succ] at h; omega)
      omega
theorem itoa_len {n : Int} (h0 : 0 ≤ n) (h1 : n ≤ 1073741824) : (itoa n).length ≤ 10 := by
  obtain ⟨u, rfl⟩ := Int.eq_ofNat_of_zero_le h0
  rw [itoa_nonneg, decDigits_length]
  exact nDigits_le 9 u (by omega)
/-- Digits, one more at the end. -/
theorem parse_snoc (M : Nat) : ∀ (l : List UInt8) (acc u d : Nat), parseUintM M acc l = .ok u → d < 10 → u * 10 + d ≤ M → u < 1844674407370955162 → parseUintM M acc (l ++ [UInt8.ofNat (48 + d)]) = .ok (u * 10 + d) := by
  intro l
  induction l with
  | nil =>
    intro acc u d h hd hu h1
    simp only [parseUintM] at h
    injection h with h
    subst h
    have e : (UInt8.ofNat (48 + d)).toNat = 48 + d := by simp; omega
    simp only [List.nil_append, parseUintM, e]
    rw [if_pos (by omega), if_neg (by omega), if_neg (by omega)]
    congr 1
    omega
  | cons c l ih =>
    intro acc u d h hd hu h1
    simp only [List.cons_append, parseUintM] at h ⊢
    split at h
    · rename_i hc
      rw [if_pos hc]
      split at h
      · cases h
      · rename_i h2
        rw [if_neg h2]
        split at h
        · cases h
        · rename_i h3
          rw [if_neg h3]
          exact ih _ u d h hd hu h1
    · cases h
theorem parse_digits (M : Nat) : ∀ (k u : Nat), u < 10 ^ (k + 1) → u ≤ M → u < 1844674407370955162 → parseUintM M 0 (decDigits u) = .ok u := by
  intro k
  induction k with
  | zero =>
    intro u h hu _
    have h9 : u < 10 := by simpa using h
    rw [decDigits_one h9]
    have := parse_snoc M [] 0 0 u rfl h9 (by omega) (by omega)
    simpa using this
  | succ k ih =>
    intro u h hu h1
    by_cases h9 : u < 10
    · rw [decDigits_one h9]
      have := parse_snoc M [] 0 0 u rfl h9 (by omega) (by omega)
      simpa using this
    · rw [decDigits, dif_neg h9]
      have h2 := ih (u / 10) (by rw [Nat.pow_succ] at h; omega) (by omega) (by omega)
      have := parse_snoc M _ 0 (u / 10) (u % 10) h2 (Nat.mod_lt _ (by decide)) (by omega) (by omega)
      rw [this]
      congr 1
      omega
theorem parse_noughts (M : Nat) (l : List UInt8) : ∀ k, parseUintM M 0 (repeatL [48] k ++ l) = parseUintM M 0 l := by
  intro k
  induction k with
  | zero => simp [repeatL]
  | succ k ih =>
    simp only [repeatL, List.cons_append, List.nil_append, parseUintM]
    rw [if_pos (by decide), if_neg (by decide)]
    simpa using ih
theorem decDigits_ne (u : Nat) : decDigits u ≠ [] := by
  rw [decDigits]
  split <;> simp
theorem digits_head (u : Nat) : ∀ c ∈ decDigits u, 48 ≤ c.toNat ∧ c.toNat ≤ 57 := by
  induction u using Nat.strongRecOn with
  | _ u ih =>
    rw [decDigits]
    split
    · rename_i h
      intro c hc
      simp at hc
      subst hc
      simp
      omega
    · rename_i h
      intro c hc
      rcases List.mem_append.1 hc with hc | hc
      · exact ih (u / 10) (by omega) c hc
      · simp at hc
        subst hc
        simp
        omega
theorem noughts_mem (k : Nat) : ∀ c ∈ repeatL [48] k, c = 48 := by
  induction k with
  | zero => intro c hc; simp [repeatL] at hc
  | succ k ih =>
    intro c hc
    simp [repeatL] at hc
    rcases hc with rfl | hc
    · rfl
    · exact ih c hc
/-- A right number is got from its name. -/
theorem fst_nm {n : Int} (h0 : 0 ≤ n) (h1 : n ≤ 1073741824) : fst (nm n) = (n, true) := by
  have hn : nm n = 115 :: (repeatL [48] (10 - (itoa n).length) ++ itoa n) := by unfold nm; rw [if_pos ⟨h0, h1⟩]
  obtain ⟨u, rfl⟩ := Int.eq_ofNat_of_zero_le h0
  rw [itoa_nonneg] at hn
  generalize 10 - (decDigits u).length = k at hn
  have ht : trimPrefix (nm (u : Int)) [115] = repeatL [48] k ++ decDigits u := by
    rw [hn]; simp [trimPrefix, hasPrefix]
  have hp : parseUintM (2 ^ 64 - 1) 0 (repeatL [48] k ++ decDigits u) = .ok u := by
    rw [parse_noughts]; exact parse_digits _ 9 u (by omega) (by omega) (by omega)
  have hne : repeatL [48] k ++ decDigits u ≠ [] := by simp [decDigits_ne]
  have hp2 : parseIntB 64 (repeatL [48] k ++ decDigits u) = .ok (u : Int) := by
    obtain ⟨c, r, hcr⟩ : ∃ c r, repeatL [48] k ++ decDigits u = c :: r := by
      cases h : repeatL [48] k ++ decDigits u with
      | nil => exact absurd h hne
      | cons c r => exact ⟨c, r, rfl⟩
    have hc : 48 ≤ c.toNat ∧ c.toNat ≤ 57 := by
      have hm : c ∈ repeatL [48] k ++ decDigits u := by rw [hcr]; simp
      rcases List.mem_append.1 hm with hm | hm
      · rw [noughts_mem k c hm]; decide
      · exact digits_head u c hm
    rw [hcr] at hp ⊢
    have e1 : parseUintB 64 (c :: r) = .ok u := by unfold parseUintB; rw [if_neg (by simp)]; exact hp
    unfold parseIntB
    simp only []
    rw [if_neg (by omega), e1]
    simp only []
    rw [if_neg (by omega), if_neg (by omega), if_neg (by omega)]
  unfold fst
  rw [ht, hp2]
  simp
theorem nm_no {n : Int} (h : ¬ (0 ≤ n ∧ n ≤ 1073741824)) : nm n = [] := by unfold nm; rw [if_neg h]
theorem fst_nil : fst [] = (0, false) := by
  unfold fst
  rw [show trimPrefix [] [115] = [] from rfl]
  rfl
theorem fst_yes {l : List UInt8} (h : (fst l).2 = true) : nm (fst l).1 = l := by
  unfold fst at *
  split at h
  · split at h
    · rename_i v _ hn; simp [hn]
    · cases h
  · cases h
theorem fst_no {l : List UInt8} (h : (fst l).2 = false) : (fst l).1 = 0 := by
  unfold fst at *
  split at h
  · split at h
    · cases h
    · rename_i v _ hn; rw [if_neg hn]
  · rfl
theorem nm_ne {n : Int} (h0 : 0 ≤ n) (h1 : n ≤ 1073741824) : nm n ≠ [] := by unfold nm; rw [if_pos ⟨h0, h1⟩]; simp
theorem nm_len (n : Int) : (nm n).length ≤ 11 := by
  unfold nm
  split
  · rename_i h
    have := itoa_len h.1 h.2
    simp [repeatL_length]
    omega
  · simp
end Sgn
end
section
set_option linter.unusedSimpArgs false
set_option linter.unusedVariables false
open Crc Frm

def magic : List Nat := [71, 79, 86, 49]
def hd0 (n : Nat) : List Nat := magic ++ be 4 n
def head (n : Nat) : List Nat := hd0 n ++ be 4 (more 0 (hd0 n))
theorem hd0_len (n : Nat) : (hd0 n).length = 8 := by simp [hd0, magic, be_len]
theorem head_len (n : Nat) : (head n).length = 12 := by simp [head, hd0_len, be_len]
theorem hd0_byte (n : Nat) : ∀ c ∈ hd0 n, c < 256 := by
  intro c hc
  rcases List.mem_append.1 hc with h | h
  · clear hc; revert c; decide
  · exact be_byte _ _ c h
theorem head_byte (n : Nat) : ∀ c ∈ head n, c < 256 := by
  intro c hc
  rcases List.mem_append.1 hc with h | h
  · exact hd0_byte n c h
  · exact be_byte _ _ c h
/-- The head's bytes, or nothing. -/
def hdo (n : Int) : List Nat := if 0 ≤ n ∧ n ≤ 1073741824 then head n.toNat else []
/-- What a head tells, and what it is wrong by. -/
def rh (bs : List Nat) : Nat × Nat :=
  if bs.length < 12 then (0, 13)
  else if bs.take 4 ≠ magic then (0, 12)
  else if val ((bs.drop 8).take 4) ≠ more 0 (bs.take 8) then (0, 14)
  else if 1073741824 < val ((bs.drop 4).take 4) then (0, 12)
  else (val ((bs.drop 4).take 4), 0)
/-- What Read tells. -/
def rd (bs : List Nat) : Nat × List Fr × Nat × Nat :=
  if (rh bs).2 ≠ 0 then (0, [], 0, (rh bs).2) else ((rh bs).1, (scan (bs.drop 12) ((rh bs).1 : Int)).1, 12 + (scan (bs.drop 12) ((rh bs).1 : Int)).2, 0)
end
section
set_option linter.unusedSimpArgs false
set_option linter.unusedVariables false
open Go.RowKit Go.Sort Go.Maps
open Crc Frm
open Sgn

/-- A log, but for its disk and its size: the first numbers of its segments, the next frame's number. -/
structure Lg where
  segs : List Int
  next : Int
def lgLast (g : Lg) : List UInt8 := nm (g.segs.getLastD 0)
def St.has (t : St) (s : List UInt8) : Bool := (fat t.D s).isSome
def St.bytes (t : St) (s : List UInt8) : List Nat := ((fat t.D s).getD Fl.zero).bs
/-- A step behind others: only if none of them failed. -/
def thenSt (r : Int × St) (f : St → Int × St) : Int × St := if r.1 ≠ 0 then r else f r.2
/-- Delete of a file, only if it is there. -/
def St.drop (t : St) (s : List UInt8) : Int × St := if t.has s = true then t.delete s else (0, t)
/-- Deletes up to the first error; deletes whatever the errors, the first one told. -/
def delAll : List (List UInt8) → St → Int × St
  | [], t => (0, t)
  | s :: l, t => thenSt (t.delete s) (delAll l)
def delEach : List (List UInt8) → Int → St → Int × St
  | [], e, t => (e, t)
  | s :: l, e, t => delEach l (if e = 0 then (t.delete s).1 else e) (t.delete s).2
/-- A segment is laid. -/
def lgTry (g : Lg) (t : St) (first : Int) : Int × St :=
  thenSt (thenSt (thenSt (t.drop (nm first)) fun t => t.write (nm first) (hdo first)) fun t => t.sync (nm first)) fun t => mSwap t (g.segs ++ [first])
def lgLay (g : Lg) (t : St) (first : Int) : Int × St × Lg :=
  let r := lgTry g t first
  if r.1 = 0 then (0, r.2, { g with segs := g.segs ++ [first] }) else if r.1 = 42 then (42, r.2, g) else (r.1, (r.2.delete (nm first)).2, g)
/-- Append. -/
def lgFull (size : Nat) (g : Lg) (t : St) (more : Nat) : Bool := decide (g.segs.getLastD 0 < g.next) && decide (size < (t.bytes (lgLast g)).length + more)
def lgRoom (size : Nat) (g : Lg) (t : St) (more : Nat) : Int × St × Lg :=
  if lgFull size g t more = false then (0, t, g) else if 40 ≤ g.segs.length then (5, t, g) else
  let s := t.sync (lgLast g)
  if s.1 ≠ 0 then (s.1, s.2, g) else lgLay g s.2 g.next
def lgAppend (size : Nat) (g : Lg) (t : St) (kind : Int) (body : List Nat) : (Int × Int) × St × Lg :=
  let f : Fr := ⟨kind, g.next, body⟩
  if ¬ f.right then ((0, 1), t, g) else
  let r := lgRoom size g t (put f).length
  if r.1 ≠ 0 then ((0, r.1), r.2.1, r.2.2) else
  let v := r.2.1.write (lgLast r.2.2) (put f)
  if v.1 ≠ 0 then ((0, v.1), v.2, r.2.2) else ((g.next, 0), v.2, { r.2.2 with next := g.next + 1 })
/-- Sync, Retain. -/
def lgSync (g : Lg) (t : St) : Int × St := t.sync (lgLast g)
def lgGone (g : Lg) (seq : Int) : Nat := (g.segs.tail.takeWhile fun x => decide (x ≤ seq)).length
def lgRetain (g : Lg) (t : St) (seq : Int) : Int × St × Lg :=
  if lgGone g seq = 0 then (0, t, g) else
  let s := mSwap t (g.segs.drop (lgGone g seq))
  if s.1 ≠ 0 then (s.1, s.2, g) else
  let d := delEach ((g.segs.take (lgGone g seq)).map nm) 0 s.2
  (d.1, d.2, { g with segs := g.segs.drop (lgGone g seq) })
/-- Open: the good ones of a list, the last one's good bytes if there are more behind them. -/
def lgFind (t : St) : List Int → Lg → Lg × Option (List Nat)
  | [], g => (g, none)
  | x :: l, g =>
    let b := t.bytes (nm x)
    let r := rd b
    if r.2.2.2 ≠ 0 ∨ (r.1 : Int) ≠ x ∨ ¬ (g.segs = [] ∨ x = g.next) then (g, none) else
    let g' : Lg := ⟨g.segs ++ [x], x + (r.2.1.length : Int)⟩
    if r.2.2.1 < b.length then (g', some (b.take r.2.2.1)) else lgFind t l g'
def lgStray (g : Lg) (names : List (List UInt8)) : List (List UInt8) := names.filter fun s => (fst s).2 && !g.segs.contains (fst s).1
def lgClean (g : Lg) (t : St) : Int × St := delAll (lgStray g (strKeys t.D)) t
def fxL : List UInt8 := [102, 105, 120, 46, 116, 109, 112]
def lgMend (g : Lg) (good : Option (List Nat)) (t : St) : Int × St :=
  match good with
  | none => (0, t)
  | some b => thenSt (thenSt (thenSt (t.drop fxL) fun t => t.write fxL b) fun t => t.sync fxL) fun t => t.rename fxL (lgLast g)
def lgRestore (t : St) : Int × St × Lg :=
  let l := (mLoad t).1
  let r := lgFind t l ⟨[], 0⟩
  if r.1.segs = [] then
    let c := lgClean r.1 t
    if c.1 ≠ 0 then (c.1, c.2, r.1) else lgLay r.1 c.2 0
  else
    let s := thenSt (thenSt (thenSt (if r.1.segs.length = l.length then (0, t) else mSwap t r.1.segs) (lgMend r.1 r.2)) (lgClean r.1)) (lgSync r.1)
    (s.1, s.2, r.1)
def lgOpen (size : Int) (t : St) : Int × St × Option Lg :=
  if size < 64 ∨ 65536 < size then (1, t, none) else
  let r := lgRestore t
  let s := thenSt (thenSt (r.1, r.2.1) fun t => t.drop fxL) fun t => t.drop nxL
  if s.1 ≠ 0 then (s.1, s.2, none) else (0, s.2, some r.2.2)
/-- Frames. -/
def lgFrames (g : Lg) (t : St) : List Fr := g.segs.flatMap fun x => (rd (t.bytes (nm x))).2.1

/-- A Delete of a file that is there tells 0 or ErrDead: so a lay that fails at its first step deletes nothing more. -/
theorem drop_dead (t : St) (s : List UInt8) : (t.drop s).1 = 0 ∨ (t.drop s).1 = 42 := by
  unfold St.drop St.has
  cases h : fat t.D s with
  | none => exact .inl rfl
  | some f =>
    simp only [Option.isSome_some, if_true]
    unfold St.delete
    rw [h]
    by_cases h0 : t.fuse = 0
    · rw [if_pos h0]; exact .inr rfl
    · rw [if_neg h0]; exact .inl rfl
end
end Go.Proofs.YtechgmohdabkpaaGreatDoor

/- The log's head: its states, as mathematics. Contracts of the program's segment: Name, First. Contracts of the program's frame: Right; the reader's closure. Contracts of the program's frame: reader, read, length. The library's Clone of bytes. Contracts of the program's frame: length, Clone, Get. Rows of frames in memory; the reference's Same. Contracts of the program's frame: Scan. Contracts of the program's frame: Get and Scan of bytes whose answer is known. 'append(v, x...)' of bytes onto bytes of the call's own, at a step of a region that draws its order. 'append(s, x...)' of bytes onto a slice of bytes without spare room: what comes is the call's own. Contracts of the program's segment: write, Head, read, readHead, Read. Contracts of the program's segment: readHead, Read. -/
import Derived.Test.YtechgmohdabkpaaGreatDoorCka
import Derived.Test.YtechgmohdabkpaaGreatDoorCkb
import Derived.Test.YtechgmohdabkpaaGreatDoorCkc
import Derived.Test.YtechgmohdabkpaaGreatDoorCkd
import Derived.Test.YtechgmohdabkpaaGreatDoorLib
import Derived.Test.YtechgmohdabkpaaGreatDoorProg
import Derived.Test.YtechgmohdabkpaaGreatDoorChecked
import Derived.Lib.AppendIntMem
import Derived.OneCell
import Derived.Lib.SliceRun
import Derived.Deep.RegionHeld3
import Derived.Deep.DrawnRows
import Derived.Deep.CutRange
import Derived.Deep.DeepCutAuto
import Derived.Deep.QuietTactic
import Derived.BigQuiet
import Derived.Laws.OwnMore
import Derived.Laws.Append
import Derived.Lib.SlBytesConst
import Derived.Lib.EndianBits
namespace Go.Proofs.YtechgmohdabkpaaGreatDoor
section
set_option linter.unusedSimpArgs false
set_option linter.unusedVariables false
open Go.RowKit Go.Sort Go.Maps
open Crc Frm
open Sgn

def hn0 : List UInt8 := [115, 48, 48, 48, 48, 48, 48, 48, 48, 48, 48]
def hn2 : List UInt8 := [115, 48, 48, 48, 48, 48, 48, 48, 48, 48, 50]
def hs0 : St := ⟨.map [], 4000, -1, 0⟩
def hz : List Nat := List.replicate 29 0
def hs1 : St := (lgOpen 64 hs0).2.1
theorem hh1 : lgOpen 64 hs0 = (0, hs1, some ⟨[0], 0⟩) := by kernel_rfl
def hs2 : St := (lgAppend 64 ⟨[0], 0⟩ hs1 1 hz).2.1
theorem hh2 : lgAppend 64 ⟨[0], 0⟩ hs1 1 hz = ((0, 0), hs2, ⟨[0], 1⟩) := by kernel_rfl
def hs3 : St := (lgAppend 64 ⟨[0], 1⟩ hs2 2 [120]).2.1
theorem hh3 : lgAppend 64 ⟨[0], 1⟩ hs2 2 [120] = ((1, 0), hs3, ⟨[0], 2⟩) := by kernel_rfl
def hs4 : St := (lgAppend 64 ⟨[0], 2⟩ hs3 3 hz).2.1
theorem hh4 : lgAppend 64 ⟨[0], 2⟩ hs3 3 hz = ((2, 0), hs4, ⟨[0, 2], 3⟩) := by kernel_rfl
theorem hh5 : lgAppend 64 ⟨[0, 2], 3⟩ hs4 0 [] = ((0, 1), hs4, ⟨[0, 2], 3⟩) := by kernel_rfl
def hs6 : St := (lgSync ⟨[0, 2], 3⟩ hs4).2
theorem hh6 : lgSync ⟨[0, 2], 3⟩ hs4 = (0, hs6) := by kernel_rfl
def hs7 : St := (lgAppend 64 ⟨[0, 2], 3⟩ hs6 4 [122]).2.1
theorem hh7 : lgAppend 64 ⟨[0, 2], 3⟩ hs6 4 [122] = ((3, 0), hs7, ⟨[0, 2], 4⟩) := by kernel_rfl
theorem hh8 : strKeys hs7.D = [mfL, hn0, hn2] := by kernel_rfl
def hs9 : St := (lgOpen 64 (hs7.crash [0, 0, 5])).2.1
theorem hh9 : lgOpen 64 (hs7.crash [0, 0, 5]) = (0, hs9, some ⟨[0, 2], 3⟩) := by kernel_rfl
theorem hh10 : lgFrames ⟨[0, 2], 3⟩ hs9 = [⟨1, 0, hz⟩, ⟨2, 1, [120]⟩, ⟨3, 2, hz⟩] := by kernel_rfl
def hs11 : St := (lgRetain ⟨[0, 2], 3⟩ hs9 2).2.1
theorem hh11 : lgRetain ⟨[0, 2], 3⟩ hs9 2 = (0, hs11, ⟨[2], 3⟩) := by kernel_rfl
theorem hh12 : lgFrames ⟨[2], 3⟩ hs11 = [⟨3, 2, hz⟩] := by kernel_rfl
theorem hh13 : strKeys hs11.D = [mfL, hn2] := by kernel_rfl
end
section
set_option linter.unusedSimpArgs false
set_option linter.unusedVariables false
open Go.RowKit
open Sgn

/-- What start-up code laid, and nothing has turned: the table of powers, the two errors. -/
structure Laid (w : World) : Prop where
  tab : Lib.TabIs Tryz.prog w "internal/strconv.uint64pow10" .u64 Lib.pow10Tab
  syn : ∃ ev, w.cell? ⟨4, 0, none⟩ = some ev ∧ (ev = .nilIface ∨ ∃ te pe, ev = .iface te pe)
  rng : ∃ ev, w.cell? ⟨5, 0, none⟩ = some ev ∧ (ev = .nilIface ∨ ∃ te pe, ev = .iface te pe)
theorem Laid.on {w w' : World} (h : Laid w) (hb : Below w.heap.size w w') : Laid w' :=
  ⟨Lib.tabBelow_of_tabIs h.tab w' hb, by
    obtain ⟨ev, h1, h2⟩ := h.syn
    exact ⟨ev, (hb.cell (block_lt_of_cell h1)).trans h1, h2⟩, by
    obtain ⟨ev, h1, h2⟩ := h.rng
    exact ⟨ev, (hb.cell (block_lt_of_cell h1)).trans h1, h2⟩⟩
theorem ret_str {a b : ByteArray} (h : a = b) : Ending.returned (.string a) = .returned (.string b) := by rw [h]

theorem first_yes (n : Int) (h0 : 0 ≤ n) (h1 : n ≤ 1073741824) (w : World) : Calls Tryz.prog 102 #[.int .i64 n] w fun e w' => e = .returned (.bool true) ∧ w = w' := by
  have d0 : decide (0 ≤ n) = true := by simpa using h0
  have d1 : decide (n ≤ 1073741824) = true := by simpa using h1
  go_enter Tryz.func102, Tryz.ntmps102
  go_wp2
  go_ret
  exact ⟨rfl, rfl⟩
theorem first_no (n : Int) (h : ¬ (0 ≤ n ∧ n ≤ 1073741824)) (w : World) : Calls Tryz.prog 102 #[.int .i64 n] w fun e w' => e = .returned (.bool false) ∧ w = w' := by
  by_cases h0 : 0 ≤ n
  · have h1 : decide (n ≤ 1073741824) = false := by simp; omega
    have d0 : decide (0 ≤ n) = true := by simpa using h0
    clear h
    go_enter Tryz.func102, Tryz.ntmps102
    go_wp2
    go_ret
    exact ⟨rfl, rfl⟩
  · have h1 : decide (0 ≤ n) = false := by simp; omega
    clear h h0
    go_enter Tryz.func102, Tryz.ntmps102
    go_wp2
    go_ret
    exact ⟨rfl, rfl⟩

set_option maxRecDepth 100000 in
set_option maxHeartbeats 800000 in
theorem name_any (n : Int) (w : World) (hL : Laid w) : Calls Tryz.prog 55 #[.int .i64 n] w fun e w' => e = .returned (.string ⟨(nm n).toArray⟩) ∧ Below w.heap.size w w' := by
  by_cases h : 0 ≤ n ∧ n ≤ 1073741824
  · have hl := itoa_len h.1 h.2
    have Hn : Hid (nm n = 115 :: (Lib.repeatL [48] (10 - (Lib.itoa n).length) ++ Lib.itoa n)) := by show _ = _; unfold nm; rw [if_pos h]
    have FI := Lib.hid (Tryz.strconv_FormatInt_10 n (by omega) (by omega) w hL.tab)
    have hi := Lib.hid (first_yes n h.1 h.2)
    clear h hL
    generalize Lib.itoa n = l at hl Hn FI
    generalize nm n = r at Hn ⊢
    obtain ⟨k, hk⟩ : ∃ k, k = 10 - l.length := ⟨_, rfl⟩
    rw [← hk] at Hn
    have hkl : (k : Int) = 10 - (l.length : Int) := by omega
    have hk10 : k ≤ 10 := by omega
    have RP := Lib.hid (fun w => Tryz.strings_Repeat ⟨#[48]⟩ k w (by omega) (by show 1 * k ≤ _; omega))
    have Hk := Lib.hid hk
    clear hk
    go_enter Tryz.func55, Tryz.ntmps55
    go_wp2_with (first | (go_at_call 102; refine (hi.out _).mono ?_; rintro e w1 ⟨rfl, rfl⟩) | fail)
    refine FI.out.mono ?_
    rintro e w2 ⟨rfl, kk, os, hw2⟩
    have hB2 : Below w.heap.size w w2 := by rw [hw2]; exact Lib.below_grow _ w (Nat.le_refl _) kk os
    clear hw2 FI hi
    go_wp2_with fail
    rw [← hkl]
    refine (RP.out w2).mono ?_
    rintro e w3 ⟨rfl, hb3⟩
    have hB3 := hB2.trans (hb3.mono hB2.size)
    clear hkl hb3 RP
    have hrl := Lib.repeatL_length [48] k
    generalize Lib.repeatL [48] k = z at Hn hrl
    have hz : z.length ≤ 10 := by rw [hrl]; simp; omega
    clear hrl
    go_wp2
    go_ret
    exact ⟨ret_str (by rw [Hn.out]; apply ByteArray.ext; simp), hB3⟩
  · rw [nm_no h]
    have hi := Lib.hid (first_no n h)
    clear h hL
    go_enter Tryz.func55, Tryz.ntmps55
    go_wp2_with (first | (go_at_call 102; refine (hi.out _).mono ?_; rintro e w1 ⟨rfl, rfl⟩) | fail)
    go_ret
    exact ⟨rfl, Below.refl _ _⟩
theorem trim_le (l p : List UInt8) : (Lib.trimPrefix l p).length ≤ l.length := by
  unfold Lib.trimPrefix
  split
  · rw [List.length_drop]; omega
  · exact Nat.le_refl _
theorem ba_eq (s : ByteArray) (l : List UInt8) (h : l = s.data.toList) : (⟨l.toArray⟩ : ByteArray) = s := by subst h; obtain ⟨⟨l⟩⟩ := s; rfl
theorem ba_ne (s : ByteArray) (l : List UInt8) (h : l ≠ s.data.toList) : (⟨l.toArray⟩ : ByteArray) ≠ s := by
  rintro rfl
  exact h rfl

set_option maxRecDepth 100000 in
set_option maxHeartbeats 800000 in
theorem segFirst_any (s : ByteArray) (hs : s.size ≤ 140737488355328) (w : World) (hL : Laid w) : Calls Tryz.prog 189 #[.string s] w fun e w' =>
    e = .returned (.tuple #[.int .i64 (fst s.data.toList).1, .bool (fst s.data.toList).2]) ∧ Below w.heap.size w w' := by
  have TP := Lib.hid (Tryz.strings_TrimPrefix s ⟨#[115]⟩)
  have hsz : (Lib.trimPrefix s.data.toList [115]).length ≤ 140737488355328 := Nat.le_trans (trim_le _ _) (by rw [← Lib.size_eq]; exact hs)
  have Hf : Hid (fst s.data.toList = match Lib.parseIntB 64 (Lib.trimPrefix s.data.toList [115]) with
    | .ok v => if nm v = s.data.toList then (v, true) else (0, false)
    | _ => (0, false)) := rfl
  have TP : Hid (∀ w, Calls Tryz.prog 213 #[.string s, .string ⟨#[115]⟩] w fun e w' => e = .returned (.string ⟨(Lib.trimPrefix s.data.toList [115]).toArray⟩) ∧ w = w') := fun w => (TP.out w).mono fun _ _ h => ⟨h.1, h.2.symm⟩
  generalize Lib.trimPrefix s.data.toList [115] = t at TP hsz Hf
  have hts : (⟨t.toArray⟩ : ByteArray).size ≤ 140737488355328 := hsz
  have HL := Lib.hid hL
  clear hL hsz
  rcases hp : Lib.parseIntB 64 t with v | _ | _
  · have PI := Lib.hid (fun w => Tryz.strconv_ParseInt_10_at64_ok ⟨t.toArray⟩ (by omega) v (by simpa using hp) w)
    have hf := Hf.out
    rw [hp] at hf
    simp only at hf
    clear Hf hp
    have NA := Lib.hid (fun w hL => name_any v w hL)
    by_cases hn : nm v = s.data.toList
    · rw [if_pos hn] at hf
      rw [hf]
      have he := ba_eq s _ hn
      rw [he] at NA
      clear hf hn he
      go_enter Tryz.func189, Tryz.ntmps189
      go_wp2_with (first
        | (go_at_call 213; refine (TP.out _).mono ?_; rintro e w1 ⟨rfl, rfl⟩)
        | (go_at_call 212; refine (PI.out _).mono ?_; rintro e w2 ⟨rfl, hw2⟩; have hB2 : Below w.heap.size w w2 := (by rcases hw2 with rfl | ⟨z, rfl⟩ <;> first | exact Below.refl _ _ | exact Lib.bytesWorld_below _ _ _); clear hw2)
        | (go_at_call 55; refine (NA.out _ (HL.out.on hB2)).mono ?_; rintro e w3 ⟨rfl, hb3⟩))
      go_ret2
      exact ⟨rfl, hB2.trans (hb3.mono hB2.size)⟩
    · rw [if_neg hn] at hf
      rw [hf]
      have he := ba_ne s _ hn
      obtain ⟨z, hz⟩ : ∃ z : ByteArray, z = ⟨(nm v).toArray⟩ := ⟨_, rfl⟩
      rw [← hz] at NA he
      have hq : (z.toList == s.toList) = false := by
        rw [beq_eq_false_iff_ne]; intro h; rw [ByteArray.toList_eq, ByteArray.toList_eq] at h; exact he (ByteArray.ext (Array.toList_inj.1 h))
      clear hf hn hz he
      go_enter Tryz.func189, Tryz.ntmps189
      go_wp2_with (first
        | (go_at_call 213; refine (TP.out _).mono ?_; rintro e w1 ⟨rfl, rfl⟩)
        | (go_at_call 212; refine (PI.out _).mono ?_; rintro e w2 ⟨rfl, hw2⟩; have hB2 : Below w.heap.size w w2 := (by rcases hw2 with rfl | ⟨z, rfl⟩ <;> first | exact Below.refl _ _ | exact Lib.bytesWorld_below _ _ _); clear hw2)
        | (go_at_call 55; refine (NA.out _ (HL.out.on hB2)).mono ?_; rintro e w3 ⟨rfl, hb3⟩))
      go_ret2
      exact ⟨rfl, hB2.trans (hb3.mono hB2.size)⟩
  · have hp' := hp
    have hf := Hf.out
    rw [hp] at hf
    simp only at hf
    rw [hf]
    clear Hf hp hf
    obtain ⟨ev, hev1, hev2⟩ := HL.out.syn
    have PI := Lib.hid (Tryz.strconv_ParseInt_10_at64_syntax ⟨t.toArray⟩ (by omega) (hp'.trans rfl) ev w hev1 hev2)
    clear hev1 hev2 hp'
    go_enter Tryz.func189, Tryz.ntmps189
    go_wp2_with (first
        | (go_at_call 213; refine (TP.out _).mono ?_; rintro e w1 ⟨rfl, rfl⟩)
        | (go_at_call 212; refine PI.out.mono ?_; rintro e w2 ⟨N, rfl, _, _, hB2⟩))
    go_ret2
    exact ⟨rfl, hB2⟩
  · have hp' := hp
    have hf := Hf.out
    rw [hp] at hf
    simp only at hf
    rw [hf]
    clear Hf hp hf
    obtain ⟨ev, hev1, hev2⟩ := HL.out.rng
    have PI := Lib.hid (Tryz.strconv_ParseInt_10_at64_range ⟨t.toArray⟩ (by omega) hp' ev w hev1 hev2)
    clear hev1 hev2 hp'
    go_enter Tryz.func189, Tryz.ntmps189
    go_wp2_with (first
        | (go_at_call 213; refine (TP.out _).mono ?_; rintro e w1 ⟨rfl, rfl⟩)
        | (go_at_call 212; refine PI.out.mono ?_; rintro e w2 ⟨N, rfl, _, _, hB2⟩))
    go_ret2
    exact ⟨rfl, hB2⟩
end
section
set_option linter.unusedSimpArgs false
set_option linter.unusedVariables false
open Go.RowKit
open Crc Frm

theorem ret_right_no (f : Fr) (h : ¬ (1 ≤ f.ty ∧ f.ty ≤ 15 ∧ 0 ≤ f.seq ∧ f.seq ≤ 1073741824)) : Ending.returned (.bool false) = .returned (.bool (decide f.right)) := by
  rw [decide_eq_false]
  unfold Fr.right
  omega
theorem ret_right_yes (f : Fr) (h : 1 ≤ f.ty ∧ f.ty ≤ 15 ∧ 0 ≤ f.seq ∧ f.seq ≤ 1073741824) : Ending.returned (.bool (decide ((f.body.length : Int) ≤ 1800))) = .returned (.bool (decide f.right)) := by
  refine ret_bool (decide_eq_decide.2 ?_)
  unfold Fr.right
  omega
set_option maxHeartbeats 400000 in
theorem right_any (f : Fr) (a : Option Addr) (cap : Nat) (w : World) :
    Calls Tryz.prog 68 #[.agg #[.int .i64 f.ty, .int .i64 f.seq, .slice a f.body.length cap]] w fun e w' => e = .returned (.bool (decide f.right)) ∧ Below w.heap.size w w' := by
  obtain ⟨ty, seq, body⟩ := f
  go_enter Tryz.func68, Tryz.ntmps68
  go_wp2
  all_goals
    go_ret
    refine ⟨?_, (Below.refl _ _).alloc (Nat.le_refl _) _⟩
    first
      | (refine ret_right_yes ⟨ty, seq, body⟩ ?_; simp only; omega)
      | (refine ret_right_no ⟨ty, seq, body⟩ ?_; simp only; omega)

/-- The same, wherever the frame's parts stand. -/
theorem right_of (f : Fr) (ty seq : Int) (len : Nat) (h1 : f.ty = ty) (h2 : f.seq = seq) (h3 : f.body.length = len) (a : Option Addr) (cap : Nat) (w : World) :
    Calls Tryz.prog 68 #[.agg #[.int .i64 ty, .int .i64 seq, .slice a len cap]] w fun e w' => e = .returned (.bool (decide f.right)) ∧ Below w.heap.size w w' := by
  subst h1 h2 h3
  exact right_any f a cap w

theorem or_byte (a c : Nat) (ha : a < 4294967296) (hc : c < 256) : bits .or .i64 ((a : Int) * 256) (c : Int) = ((a * 256 + c : Nat) : Int) := by
  rw [show (a : Int) * 256 = ((a * 256 : Nat) : Int) from by omega]
  have h1 : a * 256 ||| c = a * 256 + c := by
    have := Nat.two_pow_add_eq_or_of_lt (i := 8) (b := c) (by simpa using hc) a
    rw [show (2 : Nat) ^ 8 = 256 from rfl, Nat.mul_comm] at this
    exact this.symm
  have hx : a * 256 ||| c < 2 ^ 64 := by rw [h1]; omega
  show IntKind.i64.wrap ((BitVec.ofInt 64 ((a * 256 : Nat) : Int) ||| BitVec.ofInt 64 (c : Int)).toNat : Int) = _
  rw [BitVec.toNat_or, ofInt_u64 _ (by omega), ofInt_u64 _ (by omega), h1, IntKind.wrap_i64]
  omega

set_option maxHeartbeats 400000 in
theorem next_any (size : Nat) (h4 : size ≤ 4) (gb ga : Nat) (hg : gb < ga) (a : Option Addr) (len cap : Nat) (bs : List Nat) (p : Nat) (w : World) (hb : w.heap[gb]? = some (.cells #[.slice a len cap] 38 (0, 0)))
    (ha : w.heap[ga]? = some (.cells #[.int .i64 (p : Int)] 3 (0, 0))) (hs : Sl w ga a len cap bs) (hfit : p + size ≤ len) :
    Calls Tryz.prog 229 #[.int .i64 (size : Int), .pointer (some ⟨gb, 0, none⟩), .pointer (some ⟨ga, 0, none⟩)] w fun e w' =>
      e = .returned (.int .i64 ((val ((bs.take (p + size)).drop p) : Nat) : Int)) ∧ w'.heap[ga]? = some (.cells #[.int .i64 ((p + size : Nat) : Int)] 3 (0, 0)) ∧ w.grownBy w' (some ga) := by
  have hle := hs.le
  have hmx := hs.max
  unfold maxLen at hmx
  go_enter Tryz.func229, Tryz.ntmps229
  go_wp2_with fail
  go_loopw [5, 7] (fun v i wr => ∃ k : Nat, k ≤ size ∧ i = .int .i64 (k : Int) ∧ v = .int .i64 ((val ((bs.take (p + k)).drop p) : Nat) : Int) ∧ wr.heap[ga]? = some (.cells #[.int .i64 ((p + k : Nat) : Int)] 3 (0, 0)) ∧ w.grownBy wr (some ga))
    (fun _ i _ => size - (intOf i).toNat)
  case atStart => exact ⟨0, by omega, rfl, by rw [Nat.add_zero, List.drop_of_length_le (by rw [List.length_take]; omega)]; rfl, ha, World.grownBy.refl _ _⟩
  case round =>
    obtain ⟨k, hk, rfl, rfl, hga, hB⟩ := hrel
    by_cases hlt : k < size
    · obtain ⟨b, o, rfl, hbl, hc⟩ := hs.at_ (by omega)
      have c1 := hB.cell (hc (p + k) (by omega)) (show some b ≠ some ga from fun h => by injection h with h; omega)
      have c2 := cell_of_one ((hB.block gb (lt_of_heap hb) (by simp; omega)).trans hb)
      have c3 := cell_of_one hga
      have f3 := free_of_one hga
      have hcb := hs.lt (k := p + k) (by omega)
      have hvl : val ((bs.take (p + k)).drop p) < 16777216 := by
        have h1 := val_lt ((bs.take (p + k)).drop p) (fun c hc => hs.byte c (List.mem_of_mem_take (List.mem_of_mem_drop hc)))
        have h2 : ((bs.take (p + k)).drop p).length ≤ 3 := by rw [List.length_drop, List.length_take]; omega
        have h3 := Nat.pow_le_pow_right (n := 256) (by decide) h2
        omega
      have hstep : val ((bs.take (p + (k + 1))).drop p) = val ((bs.take (p + k)).drop p) * 256 + bs.getD (p + k) 0 := by
        have hl := hs.length
        rw [← Nat.add_assoc, List.take_succ_eq_append_getElem (by omega), List.drop_append_of_le_length (by rw [List.length_take]; omega), val_snoc, List.getD_eq_getElem?_getD, List.getElem?_eq_getElem (by omega)]
        rfl
      have Hs := Lib.hid hstep
      have Hg := Lib.hid hga
      clear hstep hga hc
      generalize val ((bs.take (p + k)).drop p) = v at hvl Hs
      generalize bs.getD (p + k) 0 = c at c1 hcb Hs
      have ho := or_byte v c (by omega) hcb
      rw [show v * 256 + c = val ((bs.take (p + (k + 1))).drop p) from Hs.out.symm] at ho
      go_wp2
      refine ⟨⟨k + 1, by omega, by go_num, by first | rfl | rw [ho], ?_, hB.trans (grownBy_setCell _ _ _)⟩, by simp [intOf]; omega⟩
      have := one_setCell (u := .int .i64 ((p : Int) + (k : Int) + 1)) Hg.out
      rw [this]
      go_num
    · have hk' : k = size := by omega
      subst hk'
      have Hg := Lib.hid hga
      clear hga
      go_wp2
      go_ret
      exact ⟨rfl, Hg.out, hB⟩
end
section
set_option linter.unusedSimpArgs false
set_option linter.unusedVariables false
open Go.RowKit
open Crc Frm

/-- Where number j begins. -/
def offs (ns : List Nat) (j : Nat) : Nat := (ns.take j).sum
theorem offs_zero (ns : List Nat) : offs ns 0 = 0 := rfl
theorem offs_succ (ns : List Nat) (j : Nat) (h : j < ns.length) : offs ns (j + 1) = offs ns j + ns.getD j 0 := by
  unfold offs
  rw [List.take_succ_eq_append_getElem h, List.sum_append, List.getD_eq_getElem?_getD, List.getElem?_eq_getElem h]
  simp
theorem offs_le (ns : List Nat) : ∀ j, offs ns j ≤ ns.sum := by
  intro j
  unfold offs
  conv => rhs; rw [← List.take_append_drop j ns]
  rw [List.sum_append]
  omega
/-- What number j is. -/
def numAt (bs ns : List Nat) (j : Nat) : Nat := val ((bs.take (offs ns j + ns.getD j 0)).drop (offs ns j))

theorem reader_any (a : Option Addr) (len cap : Nat) (w : World) :
    Calls Tryz.prog 221 #[.slice a len cap] w fun e w' =>
      e = .returned (.func (.func 229) #[] #[.pointer (some ⟨w.heap.size, 0, none⟩), .pointer (some ⟨w.heap.size + 1, 0, none⟩)]) ∧
      w' = (w.alloc (.cells #[.slice a len cap] 38)).alloc (.cells #[.int .i64 0] 3) := by
  have hmf : ∀ (fn : Fn) (first cap : Array Value) (w : World), (Instr.makeFunc fn first cap).run Tryz.prog w = .ok (.func fn first cap) w := fun _ _ _ _ => rfl
  go_enter Tryz.func221, Tryz.ntmps221
  go_wp2
  go_ret
  exact ⟨rfl, rfl⟩

theorem info_i64 : (Tryz.prog.info? 2).map (fun i => (i.zero, i.size, i.bytes)) = some (some (.int .i64 0), 1, 8) := by kernel_rfl

set_option maxHeartbeats 800000 in
theorem fread_any (a : Option Addr) (len cap : Nat) (bs : List Nat) (sa : Option Addr) (n scap : Nat) (ns : List Nat) (w : World) (hs : Sl w w.heap.size a len cap bs) (hn : ns.length = n)
    (hr : Row w w.heap.size sa n scap 1 (fun j => .int .i64 ((ns.getD j 0 : Nat) : Int))) (h4 : ∀ x ∈ ns, x ≤ 4) (hfit : ns.sum ≤ len) (hn9 : n ≤ 9) :
    Calls Tryz.prog 202 #[.slice a len cap, .slice sa n scap] w fun e w' => ∃ g, e = .returned (.slice (some ⟨g, 0, none⟩) n n) ∧ w.heap.size ≤ g ∧
      (∀ j, j < n → w'.cell? ⟨g, j, none⟩ = some (.int .i64 ((numAt bs ns j : Nat) : Int))) ∧ Below w.heap.size w w' ∧ g < w'.heap.size := by
  go_enter Tryz.func202, Tryz.ntmps202
  go_wp2_with fail
  refine (reader_any a len cap _).mono ?_
  rintro e w1 ⟨rfl, rfl⟩
  obtain ⟨i8, hi8, hz0, hz1, hz2⟩ := info_parts info_i64
  have hB1 : Below w.heap.size w ((w.alloc (.cells #[.slice a len cap] 38)).alloc (.cells #[.int .i64 0] 3)) := ((Below.refl _ _).alloc (Nat.le_refl _) _).alloc (by simp) _
  have hgb : ((w.alloc (.cells #[.slice a len cap] 38)).alloc (.cells #[.int .i64 0] 3)).heap[w.heap.size]? = some (.cells #[.slice a len cap] 38 (0, 0)) := heap_alloc2_old _ _ _
  have hga : ((w.alloc (.cells #[.slice a len cap] 38)).alloc (.cells #[.int .i64 0] 3)).heap[w.heap.size + 1]? = some (.cells #[.int .i64 0] 3 (0, 0)) := heap_alloc2_new _ _ _
  have hsz : ((w.alloc (.cells #[.slice a len cap] 38)).alloc (.cells #[.int .i64 0] 3)).heap.size = w.heap.size + 2 := by simp
  obtain ⟨w2, hw2⟩ : ∃ w2, w2 = ((w.alloc (.cells #[.slice a len cap] 38)).alloc (.cells #[.int .i64 0] 3)) := ⟨_, rfl⟩
  rw [← hw2] at hB1 hgb hga hsz
  rw [← hw2]
  clear hw2
  go_wp2_with (at_make; refine wpList_make_full _ rfl (.tmp 12) (.tmp 12) 50 rfl w2.heap.size 2 i8 (.int .i64 0) 1 Tryz.underlying50 hi8 hz0 hz1 .i64 .i64 _ _ n rfl rfl rfl rfl (by rw [hz2]; omega) (by unfold maxLen; omega) (Nat.le_refl _) ?_; intro w3 hown hg)
  have hown1 := OwnV.made rfl hown
  have hB3 : Below w2.heap.size w2 w3 := (Below.refl _ _).grown hg (Nat.le_refl _) (fun k hk => by cases hk)
  have hz3 : w2.heap.size < w3.heap.size := hown1.base_.2
  have hgb3 := (hB3.block w.heap.size (by omega)).trans hgb
  have hga3 := (hB3.block (w.heap.size + 1) (by omega)).trans hga
  have hB03 : Below w.heap.size w w3 := hB1.trans (hB3.mono hB1.size)
  clear hown hg hgb hga hB3 hB1
  rw [hsz] at hown1 hz3
  try rw [hsz]
  clear hsz
  go_loopw [7, 8, 16] (fun _ _ i wr => ∃ (k : Nat) (us : List Value), k ≤ n ∧ i = .int .i64 (k : Int) ∧ us.length = n ∧ (∀ j, j < k → us[j]? = some (.int .i64 ((numAt bs ns j : Nat) : Int))) ∧
      OwnV wr (w.heap.size + 2) 2 (.slice (some ⟨w.heap.size + 2, 0, none⟩) n n) us ∧ wr.heap[w.heap.size]? = some (.cells #[.slice a len cap] 38 (0, 0)) ∧
      wr.heap[w.heap.size + 1]? = some (.cells #[.int .i64 ((offs ns k : Nat) : Int)] 3 (0, 0)) ∧ Below w.heap.size w wr) (fun _ _ i _ => n - (intOf i).toNat)
  case atStart => exact ⟨0, _, by omega, rfl, List.length_replicate, fun j hj => by omega, hown1, hgb3, hga3, hB03⟩
  case round =>
    obtain ⟨k, us, hk, rfl, hul, huj, how, hgb, hga, hB⟩ := hrel
    clear hown1 hgb3 hga3 hB03
    by_cases hlt : k < n
    · obtain ⟨b, o, rfl, hb, hc⟩ := hr.at_ (by omega)
      have c1 := (hB.cell (p := ⟨b, o + k, none⟩) hb).trans (hc k (by omega))
      have hs' := (hs.below hB (Nat.le_refl _)).more (B' := w.heap.size + 1) (by omega)
      have hnx := h4 (ns.getD k 0) (by rw [List.getD_eq_getElem?_getD, List.getElem?_eq_getElem (by omega)]; exact List.getElem_mem _)
      have hos := offs_succ ns k (by omega)
      have hol := offs_le ns (k + 1)
      have hkc := OwnV.cell how (k := k) (List.getElem?_eq_getElem (by omega))
      have Hn : Hid (numAt bs ns k = val ((bs.take (offs ns k + ns.getD k 0)).drop (offs ns k))) := rfl
      have i1 : (k : Int) < (n : Int) := by omega
      generalize ns.getD k 0 = x at c1 hnx hos Hn
      have hfit' : offs ns k + x ≤ len := by omega
      have Hos := Lib.hid hos
      have K := Lib.hid (next_any x hnx w.heap.size (w.heap.size + 1) (by omega) a len cap bs (offs ns k) wr hgb hga hs' hfit')
      have Hr := Lib.hid (And.intro huj (And.intro how (And.intro hgb hB)))
      clear hc hos hs' huj how hgb hga
      go_wp2_with fail
      refine K.out.mono ?_
      rintro e w4 ⟨rfl, hga4, hG⟩
      obtain ⟨huj, how, hgb, hB⟩ := Hr.out
      rw [← Hn.out]
      have how4 := how.kept hG (by simp)
      have hkc4 := OwnV.cell how4 (k := k) (List.getElem?_eq_getElem (by omega))
      have hgb4 := (hG.block w.heap.size (lt_of_heap hgb) (by simp)).trans hgb
      have hB4 := grownBy_below hB hG hB.size (by omega)
      rw [← Hos.out] at hga4
      have Hr4 := Lib.hid (And.intro huj (And.intro how4 (And.intro hgb4 (And.intro hga4 hB4))))
      clear huj how hgb hB how4 hgb4 hga4 hB4 hkc Hr hG
      go_wp2
      obtain ⟨huj, how4, hgb4, hga4, hB4⟩ := Hr4.out
      refine ⟨⟨k + 1, us.set k (.int .i64 ((numAt bs ns k : Nat) : Int)), by omega, by go_num, by rw [List.length_set]; exact hul, ?_, how4.set_ k _, ?_, ?_, hB4.setCell (p := ⟨w.heap.size + 2, k, none⟩) (by show w.heap.size ≤ w.heap.size + 2; omega) _⟩, by simp [intOf]; omega⟩
      · intro j hj
        rw [List.getElem?_set]
        by_cases e : k = j
        · subst e; rw [if_pos rfl, if_pos (by omega)]
        · rw [if_neg e]; exact huj j (by omega)
      · rw [Below.heap_setCell _ _ _ _ (by simp)]; exact hgb4
      · rw [Below.heap_setCell _ _ _ _ (by simp)]; exact hga4
    · have hk' : k = n := by omega
      subst hk'
      have Hr := Lib.hid (And.intro huj (And.intro how hB))
      clear huj how hgb hga hB hr hs
      go_wp2
      go_ret
      obtain ⟨huj, how, hB⟩ := Hr.out
      exact ⟨_, rfl, by omega, fun j hj => (OwnV.cell how (huj j hj)).1, hB, how.base_.2⟩
end
section
set_option linter.unusedSimpArgs false
set_option linter.unusedVariables false
open Go.RowKit

set_option maxHeartbeats 400000 in
theorem clone_own (a : Option Addr) (len cap : Nat) (bs : List Nat) (w : World) (hs : Sl w w.heap.size a len cap bs) (hlen : len ≤ 140737488355328) :
    Calls Tryz.prog 203 #[.slice a len cap] w fun e w' => ∃ v, e = .returned v ∧ OwnB w' w.heap.size 5 v bs ∧ Below w.heap.size w w' := by
  have qT : ∀ (w : World) (a : Option Addr) (n c n' c' : Nat), (binOp .eql 38 (.slice a n c) (.slice none n' c')).run Tryz.prog w = .ok (.bool a.isNone) w := fun w a n c n' c' => Lib.run_eql_slice_nil w _ _ a n c n' c' Tryz.underlying38
  cases a with
  | none =>
    have hc0 := hs.none_ rfl
    have hl0 : len = 0 := by have := hs.le; omega
    subst hl0
    have hbs : bs = [] := List.eq_nil_of_length_eq_zero hs.length
    subst hbs
    go_enter Tryz.func203, Tryz.ntmps203
    go_wp2
    go_ret
    exact ⟨_, rfl, OwnB.nil_ _ _ _, Below.refl _ _⟩
  | some x =>
    have hl := hs.length
    have hown0 : OwnB (w.alloc (.cells #[] 5)) w.heap.size 5 (.slice (some ⟨w.heap.size, 0, none⟩) 0 0) [] := OwnB.lit _ [] (Nat.le_refl _) (by decide)
    have hs2 := hs.below ((Below.refl _ w).alloc (Nat.le_refl _) (.cells #[] 5)) (Nat.le_refl _)
    go_enter Tryz.func203, Tryz.ntmps203
    go_wp2_with (first | (at_builtin; refine wpList_append_sl rfl (.tmp 5) (.tmp 6) _ rfl w.heap.size _ Tryz.underlying38 info_u8 (.slice (some ⟨w.heap.size, 0, none⟩) 0 0) [] rfl hown0 _ (some x) len cap bs rfl hs2 (by simp; omega) (by simp) ?_; intro v1 w3 hown1 hg1 hat1))
    have hB3 : Below w.heap.size w w3 := ((Below.refl _ w).alloc (Nat.le_refl _) _).grown hg1 (by simp) (fun k hk => by simp [Value.ownBlock] at hk; omega)
    rw [List.nil_append] at hown1
    have H := Lib.hid (And.intro hown1 hB3)
    clear hg1 hat1 hown0 hown1 hB3
    go_wp2
    go_ret
    exact ⟨_, rfl, H.out⟩
theorem clone_any (a : Option Addr) (len cap : Nat) (bs : List Nat) (w : World) (hs : Sl w w.heap.size a len cap bs) (hlen : len ≤ 140737488355328) :
    Calls Tryz.prog 203 #[.slice a len cap] w fun e w' => ∃ ba bc, e = .returned (.slice ba len bc) ∧ Sl w' w'.heap.size ba len bc bs ∧ Below w.heap.size w w' ∧ ∀ b o, ba = some ⟨b, o, none⟩ → w.heap.size ≤ b :=
  (clone_own a len cap bs w hs hlen).mono fun e w' ⟨v, h1, h2, h3⟩ => by
    obtain ⟨a2, c2, hv, hs4, hbb⟩ := h2.sl_base hs.byte
    rw [hs.length] at hv hs4
    subst hv
    exact ⟨a2, c2, h1, hs4, h3, hbb⟩
end
section
set_option linter.unusedSimpArgs false
set_option linter.unusedVariables false
open Go.RowKit
open Crc Frm

def flenOf (bs : List Nat) : Nat × Nat := if bs.length < 2 then (0, 13) else if 1800 < szOf bs then (0, 12) else if bs.length < szOf bs + 11 then (0, 13) else (szOf bs + 11, 0)

/-- The sizes of a literal. -/
theorem sizes_row {w : World} {t : TypeId} {g n : Nat} {l : Array Value} {fr : Nat × Nat} {ns : List Nat} (h : w.heap[g]? = some (.cells l t fr)) (hn : ns.length = n) (hl : l = (ns.map fun (k : Nat) => Value.int .i64 (k : Int)).toArray) (hm : n ≤ maxLen) :
    Row w w.heap.size (some ⟨g, 0, none⟩) n n 1 (fun j => .int .i64 ((ns.getD j 0 : Nat) : Int)) :=
  Row.new h (fun j hj => by
    rw [hl, List.getElem?_toArray, List.getElem?_map, List.getElem?_eq_getElem (by omega), List.getD_eq_getElem?_getD, List.getElem?_eq_getElem (by omega)]; rfl) hm

theorem numAt_first (bs : List Nat) (k : Nat) : numAt bs [k] 0 = val (bs.take k) := by simp [numAt, offs]

set_option maxHeartbeats 800000 in
theorem length_any (a : Option Addr) (len cap : Nat) (bs : List Nat) (w : World) (hs : Sl w w.heap.size a len cap bs) :
    Calls Tryz.prog 201 #[.slice a len cap] w fun e w' => e = .returned (.tuple #[.int .i64 (((flenOf bs).1 : Nat) : Int), .int .i64 (((flenOf bs).2 : Nat) : Int)]) ∧ Below w.heap.size w w' := by
  have hl := hs.length
  have hle := hs.le
  have hmx := hs.max
  unfold maxLen at hmx
  by_cases h2 : len < 2
  · have e : flenOf bs = (0, 13) := by unfold flenOf; rw [if_pos (by omega)]
    rw [e]
    have h2' : (len : Int) < 2 := by omega
    go_enter Tryz.func201, Tryz.ntmps201
    go_wp2
    go_ret2
    exact ⟨rfl, Below.refl _ _⟩
  · have h2' : (2 : Int) ≤ (len : Int) := by omega
    have hv : szOf bs < 65536 := by
      have h1 := val_lt (bs.take 2) (fun c hc => hs.byte c (List.mem_of_mem_take hc))
      have h2 : (bs.take 2).length = 2 := by rw [List.length_take]; omega
      rw [h2] at h1
      exact h1
    have e : flenOf bs = if 1800 < szOf bs then (0, 12) else if len < szOf bs + 11 then (0, 13) else (szOf bs + 11, 0) := by unfold flenOf; rw [if_neg (by omega), hl]
    rcases hpq : flenOf bs with ⟨p, q⟩
    rw [hpq] at e
    clear hpq
    have He := Lib.hid e
    have Hn : Hid (numAt bs [2] 0 = szOf bs) := numAt_first bs 2
    clear e
    generalize szOf bs = n at hv Hn He
    go_enter Tryz.func201, Tryz.ntmps201
    go_wp2_with fail
    refine (fread_any a len cap bs _ 1 1 [2] _ ((hs.below ((Below.refl _ _).alloc (Nat.le_refl _) _) (Nat.le_refl _)).more (by simp)) rfl (sizes_row (heap_alloc_new _ _) rfl rfl (by decide)) (by simp) (by simp; omega) (by decide)).mono ?_
    rintro e w1 ⟨g, rfl, hg, hc, hb1, hgl⟩
    have c0 := hc 0 (by decide)
    rw [Hn.out] at c0
    have hB : Below w.heap.size w w1 := ((Below.refl _ _).alloc (Nat.le_refl _) _).trans (hb1.mono (by simp))
    clear hc hb1
    by_cases h3 : 1800 < n
    · go_wp2
      go_ret2
      have h := He.out
      rw [if_pos h3] at h
      cases h
      exact ⟨rfl, hB⟩
    · by_cases h4 : len < n + 11
      · have h4' : (len : Int) < (n : Int) + 11 := by omega
        go_wp2
        go_ret2
        have h := He.out
        rw [if_neg h3, if_pos h4] at h
        cases h
        exact ⟨rfl, hB⟩
      · have h4' : (n : Int) + 11 ≤ (len : Int) := by omega
        go_wp2
        go_ret2
        have h := He.out
        rw [if_neg h3, if_neg h4] at h
        cases h
        exact ⟨ret_tup2 (by go_num) rfl, hB⟩
theorem results_row_tmp2 {P : Program} {fn : Func} {p u v : Tmp} {ty : TypeId} (h : fn.results = #[.cell p ty, .tmp u, .tmp v]) (tmps : Array Value) (w : World) (g : Nat) (t : TypeId) (cs : Array Value) (fr : Nat × Nat) (d : TypeDesc)
    (hp : tmps.getD p undef = .pointer (some ⟨g, 0, none⟩)) (hg : w.heap[g]? = some (.cells cs t fr))
    (hu : P.underlying ty = some d) (hd : (match d with | .struct _ | .array _ _ => true | _ => false) = true) (hi : (P.info? ty).map (·.size) = some cs.size) :
    (results fn tmps).run P w = .ok (.tuple #[.agg cs, tmps.getD u undef, tmps.getD v undef]) w := by
  have hp' : tmps[p]?.getD undef = .pointer (some ⟨g, 0, none⟩) := by simpa using hp
  simp [results, h, hp', asAddr, run_loadVar_row w g t ty cs fr d hg hu hd hi]

/-- The same contract, for the midst of a function. -/
theorem read_from {B : Nat} {w0 : World} {a : Option Addr} {len cap : Nat} {bs : List Nat} (hB : B ≤ w0.heap.size) (hs : Sl w0 B a len cap bs) (n : Nat) (ns : List Nat) (hn : ns.length = n) (h4 : ∀ x ∈ ns, x ≤ 4) (hfit : ns.sum ≤ len) (hn9 : n ≤ 9)
    (g0 : Nat) (w : World) (hb : Below B w0 w) (hr : Row w w.heap.size (some ⟨g0, 0, none⟩) n n 1 (fun j => .int .i64 ((ns.getD j 0 : Nat) : Int))) :
    Calls Tryz.prog 202 #[.slice a len cap, .slice (some ⟨g0, 0, none⟩) n n] w fun e w' => ∃ g, e = .returned (.slice (some ⟨g, 0, none⟩) n n) ∧ w.heap.size ≤ g ∧
      (∀ j, j < n → w'.cell? ⟨g, j, none⟩ = some (.int .i64 ((numAt bs ns j : Nat) : Int))) ∧ Below B w0 w' ∧ g < w'.heap.size :=
  (fread_any a len cap bs (some ⟨g0, 0, none⟩) n n ns w ((hs.below hb (Nat.le_refl _)).more (Nat.le_trans hB hb.size)) hn hr h4 hfit hn9).mono fun _ _ ⟨g, he, h1, h2, h3, h5⟩ => ⟨g, he, h1, h2, hb.trans (h3.mono (Nat.le_trans hB hb.size)), h5⟩

theorem cell_far3 {w : World} {q : Addr} {b : Nat} {u v0 v1 v2 : Value} (h : w.cell? q = some u) (hne : q.block ≠ b) : (((w.setCell ⟨b, 0, none⟩ v0).setCell ⟨b, 1, none⟩ v1).setCell ⟨b, 2, none⟩ v2).cell? q = some u :=
  cell_set_far (p := ⟨b, 2, none⟩) (cell_set_far (p := ⟨b, 1, none⟩) (cell_set_far (p := ⟨b, 0, none⟩) h hne) hne) hne
theorem zero_cells : (#[Value.int .i64 0, .int .i64 0, .slice none 0 0].all fun x => x.oneCell') = true := by kernel_rfl
theorem get_of_len (bs : List Nat) (h : (flenOf bs).2 ≠ 0) : get bs = (Fr.zero, 0, (flenOf bs).2) := by
  unfold flenOf at *
  unfold Frm.get
  split at h
  · rename_i h1; rw [if_pos h1, if_pos h1]
  split at h
  · rename_i h1 h2; rw [if_neg h1, if_pos h2, if_neg h1, if_pos h2]
  split at h
  · rename_i h1 h2 h3; rw [if_neg h1, if_neg h2, if_pos h3, if_neg h1, if_neg h2, if_pos h3]
  · exact absurd rfl h
theorem len_ok (bs : List Nat) (h : (flenOf bs).2 = 0) : flenOf bs = (szOf bs + 11, 0) ∧ szOf bs + 11 ≤ bs.length ∧ szOf bs ≤ 1800 ∧
    get bs = if val ((bs.take (szOf bs + 11)).drop (szOf bs + 7)) ≠ more 0 (bs.take (szOf bs + 7)) then (Fr.zero, 0, 14) else if ¬ (frOf bs).right then (Fr.zero, 0, 12) else (frOf bs, szOf bs + 11, 0) := by
  unfold flenOf at *
  unfold Frm.get
  split at h
  · cases h
  split at h
  · cases h
  split at h
  · cases h
  · rename_i h1 h2 h3
    refine ⟨?_, by omega, by omega, ?_⟩
    · rw [if_neg h1, if_neg h2, if_neg h3]
    · rw [if_neg h1, if_neg h2, if_neg h3]

theorem numAt_two (bs : List Nat) (h : 7 ≤ bs.length) : numAt bs [2, 1, 4] 1 = bs.getD 2 0 := by
  match bs, h with
  | a :: b :: c :: d :: e :: f :: g :: t, _ => simp [numAt, offs, val]
theorem numAt_three (bs : List Nat) : numAt bs [2, 1, 4] 2 = val ((bs.take 7).drop 3) := by simp [numAt, offs]

set_option maxHeartbeats 800000 in
theorem get_any (a : Option Addr) (len cap : Nat) (bs : List Nat) (w : World) (hs : Sl w w.heap.size a len cap bs) :
    Calls Tryz.prog 166 #[.slice a len cap] w fun e w' => ∃ ba bc, e = .returned (.tuple #[.agg #[.int .i64 (get bs).1.ty, .int .i64 (get bs).1.seq, .slice ba (get bs).1.body.length bc], .int .i64 (((get bs).2.1 : Nat) : Int), .int .i64 (((get bs).2.2 : Nat) : Int)]) ∧
      Sl w' w'.heap.size ba (get bs).1.body.length bc (get bs).1.body ∧ Below w.heap.size w w' ∧ (∀ b o, ba = some ⟨b, o, none⟩ → w.heap.size ≤ b) := by
  have LA := Lib.hid (length_any a len cap bs)
  by_cases hok : (flenOf bs).2 = 0
  · obtain ⟨hl, hlen, h18, hget⟩ := len_ok bs hok
    rw [hl] at LA
    have hbl := hs.length
    rw [hbl] at hlen
    have hle := hs.le
    have hmx := hs.max
    unfold maxLen at hmx
    have Hv : Hid (numAt ((bs.take (szOf bs + 11)).drop (szOf bs + 7)) [4] 0 = val ((bs.take (szOf bs + 11)).drop (szOf bs + 7))) := by
      show _ = _
      rw [numAt_first, List.take_of_length_le (by rw [List.length_drop, List.length_take]; omega)]
    have Hg := Lib.hid hget
    clear hget hok hl
    have s1 := hs.take (k := szOf bs + 7) (by omega)
    have s2 := hs.mid (j := szOf bs + 7) (k := szOf bs + 11) (by omega) (by omega)
    have c1 := run_cut_to (P := Tryz.prog) 38 5 Tryz.underlying38 info_u8 a len cap (szOf bs + 7) (by omega)
    have c2 : ∀ w, (Instr.slice 38 (.slice a len cap) (some (.int .i64 ((szOf bs + 7 : Nat) : Int))) (some (.int .i64 ((szOf bs + 11 : Nat) : Int))) none).run Tryz.prog w = .ok (.slice (fromA a cap (szOf bs + 7)) (szOf bs + 11 - (szOf bs + 7)) (cap - (szOf bs + 7))) w :=
      run_cut_mid (P := Tryz.prog) 38 5 Tryz.underlying38 info_u8 a len cap (szOf bs + 7) (szOf bs + 11) (by omega) (by omega)
    rw [show ((szOf bs + 7 : Nat) : Int) = ((szOf bs + 11 : Nat) : Int) - 4 from by omega] at c1 c2
    have hq : szOf bs + 11 - (szOf bs + 7) = 4 := by omega
    rw [hq] at s2 c2
    obtain ⟨L, hL⟩ : ∃ L, L = szOf bs + 11 := ⟨_, rfl⟩
    rw [← hL] at c1 c2 LA hlen
    have h11 : 11 ≤ L := by omega
    have hL9 : L ≤ 1811 := by omega
    obtain ⟨q, hq7⟩ : ∃ q, q = szOf bs + 7 := ⟨_, rfl⟩
    rw [← hq7] at c1 c2 s1 s2 Hg Hv
    rw [← hL] at s2 Hg Hv
    generalize fromA a cap q = a2 at c2 s2
    generalize cap - q = k2 at c2 s2
    have Hq := Lib.hid (And.intro hL hq7)
    clear hL hq7 hq
    go_enter Tryz.func166, Tryz.ntmps166
    go_wp2_with fail
    refine (LA.out _ ((hs.below ((Below.refl _ _).alloc (Nat.le_refl _) _) (Nat.le_refl _)).more (by simp))).mono ?_
    rintro e w1 ⟨rfl, hb1⟩
    have hr1 := (hb1.block w.heap.size (by simp)).trans (heap_alloc_new _ _)
    have hB1 : Below w.heap.size w w1 := ((Below.refl _ _).alloc (Nat.le_refl _) _).trans (hb1.mono (by simp))
    clear hb1
    have hS := Below.refl w1.heap.size w1
    have hwr : IntKind.i64.wrap ((L : Int) - 4) = (L : Int) - 4 := by rw [IntKind.wrap_i64]; omega
    go_wp2
    go_region_held3 (fun w' => Below w1.heap.size w1 w') (first | assumption | exact Below.drew (by assumption)) (fail)
    have RD := Lib.hid (read_from (a := a2) (Nat.le_refl _) ((s2.below hB1 (Nat.le_refl _)).more (B' := w1.heap.size) hB1.size) 1 [4] rfl (by simp) (by simp) (by decide))
    have S1 := Lib.hid s1
    have HB := Lib.hid (And.intro hB1 hr1)
    clear hB1 hr1 s1 s2 hs hS
    go_wp2_with fail
    have hw32 : IntKind.i64.wrap ((more 0 (bs.take q) : Nat) : Int) = ((more 0 (bs.take q) : Nat) : Int) := by have := more_lt 0 (bs.take q); rw [IntKind.wrap_i64]; omega
    go_cut [37] from 11 (fun t wx => t = .bool (((val ((bs.take L).drop q) : Nat) : Int) != ((more 0 (bs.take q) : Nat) : Int)) ∧ Below w1.heap.size w1 wx)
    case first =>
      go_region_with (first
        | (go_at_call 202; refine (RD.out w1.heap.size _ (Below.drew (Below.drew ((Below.refl _ _).alloc (Nat.le_refl _) _))) (sizes_row (heap_alloc_new _ _) rfl rfl (by decide))).mono ?_; rintro e w2 ⟨g, rfl, hg, hc, hb2, hgl⟩; have c0 := hc 0 (by decide); rw [Hv.out] at c0; clear hc)
        | (go_at_call 124; refine (of_any a q cap _ _ ((S1.out.below (HB.out.1.trans (hb2.mono HB.out.1.size)) (Nat.le_refl _)).more (HB.out.1.trans (hb2.mono HB.out.1.size)).size)).mono ?_; rintro e w3 ⟨rfl, hb3⟩; have c0 := (hb3.cell hgl).trans c0))
      all_goals
        go_wp2_with fail
        go_meet
        case rel => exact ⟨by first | rfl | rw [hw32], hb2.trans (hb3.mono hb2.size)⟩
    case rest =>
      obtain ⟨rfl, hB3⟩ := hcut
      obtain ⟨hB1, hr1⟩ := HB.out
      have hBc : Below w.heap.size w wc := hB1.trans (hB3.mono hB1.size)
      have hwl := lt_of_heap hr1
      have hrc := (hB3.block w.heap.size hwl).trans hr1
      have Hrc := Lib.hid (And.intro hrc hBc)
      clear hB1 hr1 hrc hB3 HB RD hBc hw32
      by_cases hne : val ((bs.take L).drop q) = more 0 (bs.take q)
      · rw [if_neg (by simpa using hne)] at Hg
        rw [hne]
        clear hne
        have hq7 : 7 ≤ q := by have := Hq.out; omega
        have hq9 : q ≤ 1807 := by have := Hq.out; omega
        go_wp2_with fail
        refine (fread_any a q cap (bs.take q) _ 3 3 [2, 1, 4] _ (((S1.out.below Hrc.out.2 (Nat.le_refl _)).more Hrc.out.2.size).below ((Below.refl _ _).alloc (Nat.le_refl _) _) (Nat.le_refl _) |>.more (by simp)) rfl (sizes_row (heap_alloc_new _ _) rfl rfl (by decide)) (by simp) (by simp; omega) (by decide)).mono ?_
        rintro e w2 ⟨g, rfl, hg, hc, hb2, hgl⟩
        have b1 := hc 1 (by decide)
        have b2 := hc 2 (by decide)
        rw [numAt_two _ (by rw [List.length_take]; omega), List.getD_eq_getElem?_getD, List.getElem?_take_of_lt (by omega), ← List.getD_eq_getElem?_getD] at b1
        rw [numAt_three, List.take_take, Nat.min_eq_left hq7] at b2
        have hB2 : Below w.heap.size w w2 := (Hrc.out.2.alloc Hrc.out.2.size _).trans (hb2.mono (by have := Hrc.out.2.size; simp; omega))
        have hr2 := (hb2.block w.heap.size (by have := Hrc.out.2.size; have := lt_of_heap Hrc.out.1; simp; omega)).trans ((heap_alloc_old _ _ (lt_of_heap Hrc.out.1)).trans Hrc.out.1)
        obtain ⟨ty, hty⟩ : ∃ ty, ty = bs.getD 2 0 := ⟨_, rfl⟩
        obtain ⟨sq, hsq⟩ : ∃ sq, sq = val ((bs.take 7).drop 3) := ⟨_, rfl⟩
        rw [← hty] at b1
        rw [← hsq] at b2
        have Ht := Lib.hid (And.intro hty hsq)
        clear hty hsq
        have Hr2 := Lib.hid (And.intro hr2 hB2)
        have hgn : g ≠ w2.heap.size := by omega
        have s3 := ((S1.out.below hB2 (Nat.le_refl _)).more hB2.size).from_ hq7
        have c3 : ∀ w, (Instr.slice 38 (.slice a q cap) (some (.int .i64 (7 : Int))) none none).run Tryz.prog w = .ok (.slice (fromA a cap 7) (q - 7) (cap - 7)) w :=
          run_cut_from (P := Tryz.prog) 38 5 Tryz.underlying38 info_u8 a q cap 7 (by omega)
        generalize fromA a cap 7 = a3 at s3 c3
        generalize hn3 : q - 7 = n3 at s3 c3
        have Hn3 := Lib.hid hn3
        generalize cap - 7 = k3 at s3 c3
        have CL := Lib.hid (fun (w' : World) (hb : Below w2.heap.size w2 w') => clone_any a3 n3 k3 _ w' ((s3.below hb (Nat.le_refl _)).more hb.size) (by omega))
        clear hB2 hr2 hb2 hc s3 hn3
        go_wp2_with fail
        go_cut [10] from 11 (fun p wx => ∃ g2 ba bc, p = .pointer (some ⟨g2, 0, none⟩) ∧ wx.heap[g2]? = some (.cells #[.int .i64 (ty : Int), .int .i64 (sq : Int), .slice ba n3 bc] 65 (0, 0)) ∧ Sl wx wx.heap.size ba n3 bc ((bs.take q).drop 7) ∧ Below w2.heap.size w2 wx ∧ w2.heap.size ≤ g2 ∧ ∀ b o, ba = some ⟨b, o, none⟩ → w2.heap.size ≤ b)
        case first =>
          go_region_held3 (fun w' => w'.cell? ⟨g, 1, none⟩ = some (.int .i64 (ty : Int)) ∧ w'.cell? ⟨g, 2, none⟩ = some (.int .i64 (sq : Int)))
            (first | exact ⟨d1, d2⟩ | exact ⟨d1a _, d2a _⟩ | exact ⟨b1, b2⟩ | exact ⟨cell_far3 d1 hgn, cell_far3 d2 hgn⟩ | exact ⟨(World.cell?_alloc_past _ _ _ hgl).trans b1, (World.cell?_alloc_past _ _ _ hgl).trans b2⟩) (first
            | (go_at_call 203; refine (CL.out w2.drew (Below.drew (Below.refl _ _))).mono ?_; rintro e w4 ⟨ba, bc, rfl, hsc, hb4, hbb⟩; have d1 := (hb4.cell (p := ⟨g, 1, none⟩) hgl).trans b1; have d2 := (hb4.cell (p := ⟨g, 2, none⟩) hgl).trans b2; have hg4 : g < w4.heap.size := Nat.lt_of_lt_of_le hgl hb4.size; have d1a : ∀ o, (w4.alloc o).cell? ⟨g, 1, none⟩ = _ := fun o => (World.cell?_alloc_past _ _ _ hg4).trans d1; have d2a : ∀ o, (w4.alloc o).cell? ⟨g, 2, none⟩ = _ := fun o => (World.cell?_alloc_past _ _ _ hg4).trans d2)
            | (go_at_call 203; refine (CL.out _ (Below.drew ((Below.refl _ _).alloc (Nat.le_refl _) _))).mono ?_; rintro e w4 ⟨ba, bc, rfl, hsc, hb4, hbb⟩; have hblk := (hb4.block w2.heap.size (by simp)).trans (heap_alloc_new w2 _); have x0 := (cell_of_row w4 w2.heap.size 0 _ _ _ hblk).trans rfl; have x1 := (cell_of_row w4 w2.heap.size 1 _ _ _ hblk).trans rfl; have x2 := (cell_of_row w4 w2.heap.size 2 _ _ _ hblk).trans rfl; have y0 := frozen_of_row w4 w2.heap.size 0 _ _ hblk; have y1 := frozen_of_row w4 w2.heap.size 1 _ _ hblk; have y2 := frozen_of_row w4 w2.heap.size 2 _ _ hblk; have d1 := (hb4.cell (p := ⟨g, 1, none⟩) (by simp; omega)).trans ((World.cell?_alloc_past _ _ _ hgl).trans b1); have d2 := (hb4.cell (p := ⟨g, 2, none⟩) (by simp; omega)).trans ((World.cell?_alloc_past _ _ _ hgl).trans b2)))
          · go_wp2_with fail
            go_meet
            case rel => exact ⟨w4.heap.size, ba, bc, rfl, heap_alloc_new _ _, (hsc.below ((Below.refl _ _).alloc (Nat.le_refl _) _) (Nat.le_refl _)).more (by simp), (Below.drew (Below.refl _ _)).trans hb4 |>.alloc hb4.size _, hb4.size, hbb⟩
          · go_wp2_with fail
            go_meet
            case rel =>
              have hbn : 0 < n3 → ∀ b o, ba = some ⟨b, o, none⟩ → b ≠ w2.heap.size := fun _ b o h => by have := hbb b o h; simp at this; omega
              refine ⟨w2.heap.size, ba, bc, rfl, ?_, ?_, ?_, Nat.le_refl _, fun b o h => by have := hbb b o h; simp at this; omega⟩
              · exact heap_setCells_whole (cs := [Value.int .i64 0, .int .i64 0, .slice none 0 0]) [Value.int .i64 (ty : Int), .int .i64 (sq : Int), .slice ba n3 bc] rfl hblk
              · exact (((hsc.far ⟨w2.heap.size, 0, none⟩ _ hbn).far ⟨w2.heap.size, 1, none⟩ _ hbn).far ⟨w2.heap.size, 2, none⟩ _ hbn).more (by simp)
              · exact ((((((Below.refl _ _).alloc (Nat.le_refl _) _).drew).trans (hb4.mono (by simp))).setCell (p := ⟨w2.heap.size, 0, none⟩) (Nat.le_refl _) _).setCell (p := ⟨w2.heap.size, 1, none⟩) (Nat.le_refl _) _).setCell (p := ⟨w2.heap.size, 2, none⟩) (Nat.le_refl _) _
        case rest =>
          obtain ⟨g2, ba, bc, rfl, hg2, hsc, hB4, hge, hbb⟩ := hcut
          obtain ⟨hr2, hB2⟩ := Hr2.out
          have hr4 := (hB4.block w.heap.size (lt_of_heap hr2)).trans hr2
          have hBw := hB2.trans (hB4.mono hB2.size)
          have Hr4 := Lib.hid (And.intro hr4 hBw)
          have Hs := Lib.hid (And.intro hsc hg2)
          have k0 := (cell_of_row wc g2 0 _ _ _ hg2).trans rfl
          have k1 := (cell_of_row wc g2 1 _ _ _ hg2).trans rfl
          have k2 := (cell_of_row wc g2 2 _ _ _ hg2).trans rfl
          have hf1 : (frOf bs).ty = (ty : Int) := by rw [Ht.out.1]; rfl
          have hf2 : (frOf bs).seq = (sq : Int) := by rw [Ht.out.2]; rfl
          have hfb : (frOf bs).body = (bs.take q).drop 7 := by rw [Hq.out.2]; rfl
          have hf3 : (frOf bs).body.length = n3 := by rw [hfb, hsc.length]
          have hgl2 := lt_of_heap hg2
          have hneq : g2 ≠ w.heap.size := by
            have := lt_of_heap hr2
            omega
          have Hbn : Hid (0 < n3 → ∀ b o, ba = some ⟨b, o, none⟩ → b ≠ w.heap.size) := fun _ b o h => by
            have := hbb b o h
            have := lt_of_heap hr2
            omega
          have Hbb : Hid (∀ b o, ba = some ⟨b, o, none⟩ → w.heap.size ≤ b) := fun b o h => by
            have := hbb b o h
            have := lt_of_heap hr2
            omega
          clear hbb
          have hrg := Lib.hid (right_of (frOf bs) (ty : Int) (sq : Int) n3 hf1 hf2 hf3 ba bc)
          have Hf := Lib.hid (And.intro hf1 (And.intro hf2 (And.intro hf3 hfb)))
          clear hr2 hB2 hr4 hBw hB4 hsc Hr2 CL b1 b2 hf1 hf2 hf3 hfb hg2
          go_wp2_with fail
          refine (hrg.out _).mono ?_
          rintro e w5 ⟨rfl, hb5⟩
          have hg5 := (hb5.block g2 hgl2).trans Hs.out.2
          have hr5 := (hb5.block w.heap.size (lt_of_heap Hr4.out.1)).trans Hr4.out.1
          have hB5 := Hr4.out.2.trans (hb5.mono Hr4.out.2.size)
          have hs5 := (Hs.out.1.below hb5 (Nat.le_refl _)).more hb5.size
          have H5 := Lib.hid (And.intro hr5 (And.intro hB5 hs5))
          clear hr5 hB5 hs5 k0 k1 k2 Hr4 Hs hb5
          by_cases hr : (frOf bs).right
          · rw [decide_eq_true hr]
            have k0 := (cell_of_row w5 g2 0 _ _ _ hg5).trans rfl
            have k1 := (cell_of_row w5 g2 1 _ _ _ hg5).trans rfl
            have k2 := (cell_of_row w5 g2 2 _ _ _ hg5).trans rfl
            have hone : (#[Value.int .i64 (ty : Int), .int .i64 (sq : Int), .slice ba n3 bc].all fun x => x.oneCell') = true := by kernel_rfl
            have hg := Hg.out
            rw [if_neg (by simpa using hr)] at hg
            have Hg' := Lib.hid hg
            have Hone := Lib.hid hone
            clear hg hone hg5 Hg
            go_wp2_with (first
              | (refine wpList_store_mid (by rfl) 65 (.tmp 2) (.tmp 56) (by rfl) w.heap.size 0 #[.int .i64 (ty : Int), .int .i64 (sq : Int), .slice ba n3 bc] (by rfl) (by rfl) (there_of_block H5.out.1 (by simp)) (by kernel_rfl) Hone.out ?_))
            have hw := heap_setCells_whole (cs := [Value.int .i64 0, .int .i64 0, .slice none 0 0]) [Value.int .i64 (ty : Int), .int .i64 (sq : Int), .slice ba n3 bc] rfl H5.out.1
            refine bodyPost_ret (results_row_tmp2 rfl _ _ w.heap.size _ _ _ _ rfl hw Tryz.underlying65 (by rfl) (by kernel_rfl)) (by rfl) ?_
            rw [Hg'.out]
            simp only []
            rw [Hf.out.1, Hf.out.2.1, Hf.out.2.2.1, Hf.out.2.2.2]
            exact ⟨ba, bc, ret_tup3 rfl (by show Value.int .i64 (L : Int) = _; rw [Hq.out.1]) rfl, (Sl.farCells _ Hbn.out _ _ H5.out.2.2).more (by rw [size_setCells]; exact Nat.le_refl _), below_setCells' _ (Nat.le_refl _) _ _ H5.out.2.1, Hbb.out⟩
          · rw [decide_eq_false hr]
            have hg := Hg.out
            rw [if_pos (by simpa using hr)] at hg
            have Hg' := Lib.hid hg
            clear hg hg5 Hg
            go_wp2_with (first
              | (refine wpList_store_mid (by rfl) 65 (.tmp 2) (.tmp 55) (by rfl) w.heap.size 0 #[.int .i64 0, .int .i64 0, .slice none 0 0] (by rfl) (by rfl) (there_of_block H5.out.1 (by simp)) (by kernel_rfl) zero_cells ?_))
            have hw := heap_setCells_whole (cs := [Value.int .i64 0, .int .i64 0, .slice none 0 0]) [Value.int .i64 0, .int .i64 0, .slice none 0 0] rfl H5.out.1
            refine bodyPost_ret (results_row_tmp2 rfl _ _ w.heap.size _ _ _ _ rfl hw Tryz.underlying65 (by rfl) (by kernel_rfl)) (by rfl) ?_
            rw [Hg'.out]
            exact ⟨none, 0, rfl, Sl.nil_, below_setCells' _ (Nat.le_refl _) _ _ H5.out.2.1, fun b o h => by cases h⟩
      · have hne' : ((((val ((bs.take L).drop q) : Nat) : Int) != ((more 0 (bs.take q) : Nat) : Int))) = true := by simp; omega
        have hg := Hg.out
        rw [if_pos hne] at hg
        have Hg' := Lib.hid hg
        clear hg
        go_wp2_with (first
          | (refine wpList_store_mid (by rfl) 65 (.tmp 2) (.tmp 38) (by rfl) w.heap.size 0 #[.int .i64 0, .int .i64 0, .slice none 0 0] (by rfl) (by rfl) (there_of_block Hrc.out.1 (by simp)) (by kernel_rfl) zero_cells ?_))
        have hw := heap_setCells_whole (cs := [Value.int .i64 0, .int .i64 0, .slice none 0 0]) [Value.int .i64 0, .int .i64 0, .slice none 0 0] rfl Hrc.out.1
        refine bodyPost_ret (results_row_tmp2 rfl _ _ w.heap.size _ _ _ _ rfl hw Tryz.underlying65 (by rfl) (by kernel_rfl)) (by rfl) ?_
        rw [Hg'.out]
        exact ⟨none, 0, rfl, Sl.nil_, below_setCells' _ (Nat.le_refl _) _ _ Hrc.out.2, fun b o h => by cases h⟩
  · have hg := get_of_len bs hok
    rw [hg]
    generalize (flenOf bs).1 = z1 at LA
    generalize (flenOf bs).2 = z2 at LA hok
    have hne : (((z2 : Nat) : Int) != 0) = true := by simp; omega
    go_enter Tryz.func166, Tryz.ntmps166
    go_wp2_with fail
    refine (LA.out _ ((hs.below ((Below.refl _ _).alloc (Nat.le_refl _) _) (Nat.le_refl _)).more (by simp))).mono ?_
    rintro e w1 ⟨rfl, hb1⟩
    have hr1 := (hb1.block w.heap.size (by simp)).trans (heap_alloc_new _ _)
    have hB1 : Below w.heap.size w w1 := ((Below.refl _ _).alloc (Nat.le_refl _) _).trans (hb1.mono (by simp))
    clear hb1
    have Hr := Lib.hid hr1
    clear hr1
    go_wp2_with (first
      | (refine wpList_store_mid (by rfl) 65 (.tmp 2) (.tmp 18) (by rfl) w.heap.size 0 #[.int .i64 0, .int .i64 0, .slice none 0 0] (by rfl) (by rfl) (there_of_block Hr.out (by simp)) (by kernel_rfl) zero_cells ?_))
    have hw := heap_setCells_whole (cs := [Value.int .i64 0, .int .i64 0, .slice none 0 0]) [Value.int .i64 0, .int .i64 0, .slice none 0 0] rfl Hr.out
    refine bodyPost_ret (results_row_tmp2 rfl _ _ w.heap.size _ _ _ _ rfl hw Tryz.underlying65 (by rfl) (by kernel_rfl)) (by rfl) ?_
    exact ⟨none, 0, rfl, Sl.nil_, below_setCells' _ (Nat.le_refl _) _ _ hB1, fun b o h => by cases h⟩
end
section
set_option linter.unusedSimpArgs false
set_option linter.unusedVariables false
open Go.RowKit
open Frm

/-- A slice of frames that lies below block B reads as fs. -/
structure Frs (w : World) (B : Nat) (a : Option Addr) (len cap : Nat) (fs : List Fr) : Prop where
  length : fs.length = len
  le : len ≤ cap
  max : cap ≤ maxLen
  at_ : 0 < len → ∃ b o, a = some ⟨b, o, none⟩ ∧ b < B ∧ ∀ k f, fs[k]? = some f → ∃ ba bc, w.cell? ⟨b, o + k * 3, none⟩ = some (.int .i64 f.ty) ∧ w.cell? ⟨b, o + k * 3 + 1, none⟩ = some (.int .i64 f.seq) ∧
    w.cell? ⟨b, o + k * 3 + 2, none⟩ = some (.slice ba f.body.length bc) ∧ Sl w B ba f.body.length bc f.body
theorem Frs.below {w w' : World} {B B' : Nat} {a : Option Addr} {len cap : Nat} {fs : List Fr} (h : Frs w B a len cap fs) (hb : Below B' w w') (hB : B ≤ B') : Frs w' B' a len cap fs :=
  ⟨h.length, h.le, h.max, fun hp => by
    obtain ⟨b, o, e, hlt, hc⟩ := h.at_ hp
    refine ⟨b, o, e, by omega, fun k f hf => ?_⟩
    obtain ⟨ba, bc, h1, h2, h3, h4⟩ := hc k f hf
    exact ⟨ba, bc, (hb.cell (p := ⟨b, o + k * 3, none⟩) (by show b < B'; omega)).trans h1, (hb.cell (p := ⟨b, o + k * 3 + 1, none⟩) (by show b < B'; omega)).trans h2,
      (hb.cell (p := ⟨b, o + k * 3 + 2, none⟩) (by show b < B'; omega)).trans h3, (h4.below hb hB)⟩⟩
theorem Frs.more {w : World} {B B' : Nat} {a : Option Addr} {len cap : Nat} {fs : List Fr} (h : Frs w B a len cap fs) (hB : B ≤ B') : Frs w B' a len cap fs := h.below (Below.refl _ _) hB
theorem Frs.nil_ {w : World} {B : Nat} : Frs w B none 0 0 [] := ⟨rfl, by omega, by simp [maxLen], fun h => absurd h (by omega)⟩
/-- A literal of one frame. -/
theorem Frs.one {w w1 : World} {g : Nat} {t : TypeId} {fr : Nat × Nat} {f : Fr} {ty seq : Int} {ba : Option Addr} {n bc : Nat} (h : w.heap[g]? = some (.cells #[.int .i64 ty, .int .i64 seq, .slice ba n bc] t fr)) (h1 : f.ty = ty) (h2 : f.seq = seq) (h3 : f.body.length = n)
    (hs : Sl w1 w1.heap.size ba n bc f.body) (hb : Below w1.heap.size w1 w) : Frs w w.heap.size (some ⟨g, 0, none⟩) 1 1 [f] :=
  ⟨rfl, Nat.le_refl _, by simp [maxLen], fun _ => ⟨g, 0, rfl, lt_of_heap h, fun k x hx => by
    match k, hx with
    | 0, hx =>
      simp at hx
      subst hx h1 h2 h3
      exact ⟨ba, bc, (cell_of_row w g 0 _ _ _ h).trans rfl, (cell_of_row w g 1 _ _ _ h).trans rfl, (cell_of_row w g 2 _ _ _ h).trans rfl, (hs.below hb (Nat.le_refl _)).more hb.size⟩⟩⟩
theorem Frs.take {w : World} {B : Nat} {a : Option Addr} {len cap : Nat} {fs : List Fr} (h : Frs w B a len cap fs) {k : Nat} (hk : k ≤ len) : Frs w B a k cap (fs.take k) :=
  ⟨by rw [List.length_take, h.length]; omega, by have := h.le; omega, h.max, fun hp => by
    obtain ⟨b, o, e, hlt, hc⟩ := h.at_ (by omega)
    refine ⟨b, o, e, hlt, fun j f hf => hc j f ?_⟩
    rw [List.getElem?_take] at hf
    split at hf
    · exact hf
    · cases hf⟩

/-- A frame with the address and the capacity of its body. -/
abbrev FC := Fr × Option Addr × Nat
def fcells (ts : List FC) : List Value := ts.flatMap fun t => [.int .i64 t.1.ty, .int .i64 t.1.seq, .slice t.2.1 t.1.body.length t.2.2]
theorem fcells_snoc (ts : List FC) (t : FC) : fcells (ts ++ [t]) = fcells ts ++ [.int .i64 t.1.ty, .int .i64 t.1.seq, .slice t.2.1 t.1.body.length t.2.2] := by simp [fcells]
theorem fcells_len (ts : List FC) : (fcells ts).length = ts.length * 3 := by
  induction ts with
  | nil => rfl
  | cons t ts ih =>
    show ([_, _, _] ++ fcells ts).length = _
    rw [List.length_append, ih]
    simp
    omega
theorem fcells_get : ∀ (ts : List FC) (k : Nat) (t : FC), ts[k]? = some t → (fcells ts)[k * 3]? = some (.int .i64 t.1.ty) ∧ (fcells ts)[k * 3 + 1]? = some (.int .i64 t.1.seq) ∧ (fcells ts)[k * 3 + 2]? = some (.slice t.2.1 t.1.body.length t.2.2) := by
  intro ts
  induction ts with
  | nil => intro k t h; simp at h
  | cons x ts ih =>
    intro k t h
    cases k with
    | zero =>
      simp at h
      subst h
      exact ⟨rfl, rfl, rfl⟩
    | succ k =>
      have := ih k t (by simpa using h)
      have e : ∀ j, (fcells (x :: ts))[j + 3]? = (fcells ts)[j]? := fun j => rfl
      rw [show (k + 1) * 3 = k * 3 + 3 from by omega, show k * 3 + 3 + 1 = k * 3 + 1 + 3 from by omega, show k * 3 + 3 + 2 = k * 3 + 2 + 3 from by omega, e, e, e]
      exact this
/-- v owns these frames. -/
structure OwnF (w : World) (base : Nat) (v : Value) (ts : List FC) : Prop where
  own : w.ownsRow base 65 3 v ts.length (fcells ts)
  bodies : ∀ t ∈ ts, Sl w w.heap.size t.2.1 t.1.body.length t.2.2 t.1.body ∧ (0 < t.1.body.length → ∀ b o, t.2.1 = some ⟨b, o, none⟩ → some b ≠ v.ownBlock)
theorem OwnF.nil_ (w : World) (base : Nat) : OwnF w base (.slice none 0 0) [] := ⟨World.ownsRow_nil w base _ 3, by simp⟩
theorem OwnF.below {w w' : World} {base : Nat} {v : Value} {ts : List FC} (h : OwnF w base v ts) (hb : Below w.heap.size w w') : OwnF w' base v ts :=
  ⟨World.ownsRow.kept h.own (grown_of_below hb none) (by cases hv : v.ownBlock <;> simp), fun t ht => ⟨((h.bodies t ht).1.below hb (Nat.le_refl _)).more hb.size, (h.bodies t ht).2⟩⟩
/-- What is owned reads as a row of frames. -/
theorem OwnF.frs {w : World} {base : Nat} {v : Value} {ts : List FC} (h : OwnF w base v ts) : ∃ a cap, v = .slice a ts.length cap ∧ Frs w w.heap.size a ts.length cap (ts.map (·.1)) := by
  rcases h.own.2 with ⟨rfl, h0⟩ | ⟨g, cap, cur, rfl, hb, hh, hn, hc, hsz, htk⟩
  · have : ts = [] := List.eq_nil_of_length_eq_zero h0
    subst this
    exact ⟨none, 0, rfl, Frs.nil_⟩
  · refine ⟨_, cap, rfl, ⟨by simp, hn, hc, fun _ => ⟨g, 0, rfl, lt_of_heap hh, fun k f hf => ?_⟩⟩⟩
    rw [List.getElem?_map] at hf
    obtain ⟨t, ht, rfl⟩ := Option.map_eq_some_iff.1 hf
    have hk := (List.getElem?_eq_some_iff.1 ht).1
    obtain ⟨h1, h2, h3⟩ := fcells_get ts k t ht
    refine ⟨t.2.1, t.2.2, ?_, ?_, ?_, (h.bodies t (List.mem_of_getElem? ht)).1⟩
    · rw [Nat.zero_add, World.ownsRow.cellAt h.own (k * 3) (by omega), h1]
    · rw [Nat.zero_add, World.ownsRow.cellAt h.own (k * 3 + 1) (by omega), h2]
    · rw [Nat.zero_add, World.ownsRow.cellAt h.own (k * 3 + 2) (by omega), h3]
theorem OwnF.at_base {w : World} {base : Nat} {v : Value} {ts : List FC} (h : OwnF w base v ts) {b : Nat} (hb : v.ownBlock = some b) : base ≤ b ∧ b < w.heap.size := by
  rcases h.own.2 with ⟨rfl, _⟩ | ⟨g, cap, cur, rfl, h2, h3, _⟩
  · cases hb
  · injection hb with hb
    subst hb
    exact ⟨h2, lt_of_heap h3⟩
theorem OwnF.mono {w : World} {base base' : Nat} {v : Value} {ts : List FC} (h : OwnF w base v ts) (hb : base' ≤ base) : OwnF w base' v ts := by
  refine ⟨⟨h.own.1, ?_⟩, h.bodies⟩
  rcases h.own.2 with h1 | ⟨g, cap, cur, rfl, h2, h3⟩
  · exact .inl h1
  · exact .inr ⟨g, cap, cur, rfl, Nat.le_trans hb h2, h3⟩
theorem info_frame : (Tryz.prog.info? 65).map (fun i => (i.zero, i.size, i.bytes)) = some (some (.agg #[.int .i64 0, .int .i64 0, .slice none 0 0]), 3, 40) := by kernel_rfl

/-- 'append(l, f)' of one frame. -/
theorem wpList_append_fr {w : World} {ops : Array Oper} {rest : List Oper} {o : Oper} {a : Act} {Q : Exit → Act → World → Prop} (hgd : o.guard = none) (s x : Operand)
    (ho : o.op = .call { callee := .builtin .append, args := #[s, x], argTypes := #[46, 46] })
    (base : Nat) (v : Value) (ts : List FC) (hs : a.eval s = v) (g : Nat) (t : FC) (hx : a.eval x = .slice (some ⟨g, 0, none⟩) 1 1)
    (hown : OwnF w base v ts) (hg : w.heap[g]? = some (.cells #[.int .i64 t.1.ty, .int .i64 t.1.seq, .slice t.2.1 t.1.body.length t.2.2] 65 (0, 0)))
    (hb : Sl w w.heap.size t.2.1 t.1.body.length t.2.2 t.1.body) (hbn : 0 < t.1.body.length → ∀ b o, t.2.1 = some ⟨b, o, none⟩ → some b ≠ v.ownBlock) (hn : ts.length ≤ 2000000) (hbase : base ≤ w.heap.size)
    (h : ∀ v' w', OwnF w' base v' (ts ++ [t]) → w.grownBy w' v.ownBlock → (v'.ownBlock = v.ownBlock ∨ v'.ownBlock = some w.heap.size) → wpList Tryz.prog ops Q rest (a.put o.dst v') w') :
    wpList Tryz.prog ops Q (o :: rest) a w := by
  obtain ⟨i, hi, hz0, hz1, hz2⟩ := info_parts info_frame
  refine wpList_append_own_at w hgd s x 46 ho base 65 i (.agg #[.int .i64 0, .int .i64 0, .slice none 0 0]) 3 40 Tryz.underlying46 hi hz0 hz1 hz2 rfl (by decide) v ts.length (fcells ts) hs hown.own ⟨g, 0, none⟩ 1 1 [.int .i64 t.1.ty, .int .i64 t.1.seq, .slice t.2.1 t.1.body.length t.2.2] hx rfl ?_ ?_ (by unfold maxLen; omega) (by omega) hbase ?_
  · intro j u hj
    have hj3 : j < 3 := (List.getElem?_eq_some_iff.1 hj).1
    rw [Addr.add_mid, Nat.zero_add, cell_of_row w g j _ _ _ hg, List.getElem?_toArray]
    exact hj
  · intro u hu
    simp at hu
    rcases hu with rfl | rfl | rfl <;> rfl
  · intro v' w' h1 h2 _ h4
    refine h v' w' ⟨by rw [List.length_append, fcells_snoc]; exact h1, ?_⟩ h2 h4
    have key : ∀ (x : FC), (Sl w w.heap.size x.2.1 x.1.body.length x.2.2 x.1.body ∧ (0 < x.1.body.length → ∀ b o, x.2.1 = some ⟨b, o, none⟩ → some b ≠ v.ownBlock)) →
        Sl w' w'.heap.size x.2.1 x.1.body.length x.2.2 x.1.body ∧ (0 < x.1.body.length → ∀ b o, x.2.1 = some ⟨b, o, none⟩ → some b ≠ v'.ownBlock) := by
      rintro x ⟨hx, hne⟩
      refine ⟨(hx.kept h2 hne).more h2.size, fun hp b o e => ?_⟩
      rcases h4 with h4 | h4
      · rw [h4]; exact hne hp b o e
      · rw [h4]
        obtain ⟨b', o', e', hlt, _⟩ := hx.at_ hp
        rw [e] at e'
        injection e' with e'
        injection e' with e'
        intro hx
        injection hx with hx
        omega
    intro x hx
    rcases List.mem_append.1 hx with hx | hx
    · exact key x (hown.bodies x hx)
    · simp at hx
      subst hx
      exact key x ⟨hb, hbn⟩

theorem run_strs {w : World} {B : Nat} {a : Option Addr} {len cap : Nat} {bs : List Nat} (h : Sl w B a len cap bs) : ∀ n, (convert 38 9 (.slice a len cap)).run Tryz.prog (w.drewN n) = .ok (.string (strOf bs)) (w.drewN n) :=
  fun n => run_str (w := w.drewN n) (B := B) (show Sl (w.drewN n) B a len cap bs from ⟨h.length, h.le, h.max, h.byte, h.none_, h.at_⟩) 38 5 9 Tryz.underlying38 Tryz.underlying5 Tryz.underlying9

theorem below_drewN {B : Nat} {a w : World} {n : Nat} (h : Below B a w) : Below B a (w.drewN n) := ⟨h.os, h.tape, h.output, h.size, h.block⟩
theorem ne_toList {a b : ByteArray} (h : a ≠ b) : (a.toList == b.toList) = false := by
  rw [beq_eq_false_iff_ne]
  intro e
  rw [ByteArray.toList_eq, ByteArray.toList_eq] at e
  exact h (ByteArray.ext (Array.toList_inj.1 e))
set_option maxHeartbeats 1600000 in
theorem same_any (a : Option Addr) (la ca : Nat) (fs : List Fr) (b : Option Addr) (lb cb : Nat) (gs : List Fr) (w : World) (ha : Frs w w.heap.size a la ca fs) (hb : Frs w w.heap.size b lb cb gs) :
    Calls Tryz.prog 15 #[.slice a la ca, .slice b lb cb] w fun e w' => e = .returned (.bool (decide (fs = gs))) ∧ Below w.heap.size w w' := by
  have hla := ha.length
  have hlb := hb.length
  have hma := ha.le
  have hmx := ha.max
  unfold maxLen at hmx
  by_cases hl : la = lb
  · subst hl
    have hl' : ((la : Int) != (la : Int)) = false := by simp
    go_enter Tryz.func15, Tryz.ntmps15
    go_wp2_with fail
    go_loopw [5] (fun i wx => ∃ k : Nat, k ≤ la ∧ i = .int .i64 (k : Int) ∧ fs.take k = gs.take k ∧ Below w.heap.size w wx) (fun i _ => la - (intOf i).toNat)
    case atStart => exact ⟨0, by omega, rfl, by simp, Below.refl _ _⟩
    case round =>
      obtain ⟨k, hk, rfl, hpre, hB⟩ := hrel
      by_cases hlt : k < la
      · have hf : fs[k]? = some fs[k] := List.getElem?_eq_getElem (by omega)
        have hg : gs[k]? = some gs[k] := List.getElem?_eq_getElem (by omega)
        obtain ⟨b1, o1, rfl, hb1, hc1⟩ := (ha.below hB (Nat.le_refl _)).at_ (by omega)
        obtain ⟨b2, o2, rfl, hb2, hc2⟩ := (hb.below hB (Nat.le_refl _)).at_ (by omega)
        obtain ⟨ba1, bc1, x0, x1, x2, s1⟩ := hc1 k _ hf
        obtain ⟨ba2, bc2, y0, y1, y2, s2⟩ := hc2 k _ hg
        have e1 := run_strs s1
        have e2 := run_strs s2
        have p1 := s1.byte
        have p2 := s2.byte
        obtain ⟨f, hff⟩ : ∃ f, f = fs[k] := ⟨_, rfl⟩
        obtain ⟨g, hgg⟩ : ∃ g, g = gs[k] := ⟨_, rfl⟩
        rw [← hff] at hf x0 x1 x2 e1 p1
        rw [← hgg] at hg y0 y1 y2 e2 p2
        have i0 : (0 : Int) ≤ (k : Int) := by omega
        have i1 : (k : Int) < (la : Int) := by omega
        have H := Lib.hid (And.intro hf (And.intro hg (And.intro hpre hB)))
        clear hc1 hc2 s1 s2 hff hgg hf hg hpre hB
        obtain ⟨ft, hft⟩ : ∃ t, t = f.ty := ⟨_, rfl⟩
        obtain ⟨gt, hgt⟩ : ∃ t, t = g.ty := ⟨_, rfl⟩
        obtain ⟨fq, hfq⟩ : ∃ t, t = f.seq := ⟨_, rfl⟩
        obtain ⟨gq, hgq⟩ : ∃ t, t = g.seq := ⟨_, rfl⟩
        rw [← hft] at x0
        rw [← hgt] at y0
        rw [← hfq] at x1
        rw [← hgq] at y1
        have hstr := strOf_eq p1 p2
        obtain ⟨fs', hfs'⟩ : ∃ t, t = strOf f.body := ⟨_, rfl⟩
        obtain ⟨gs', hgs'⟩ : ∃ t, t = strOf g.body := ⟨_, rfl⟩
        rw [← hfs'] at e1 hstr
        rw [← hgs'] at e2 hstr
        have HE : Hid ((ft = gt ∧ fq = gq ∧ fs' = gs') ↔ f = g) := by
          rw [hft, hgt, hfq, hgq, hstr]
          constructor
          · rintro ⟨h1, h2, h3⟩
            cases f; cases g; simp_all
          · rintro rfl; exact ⟨rfl, rfl, rfl⟩
        generalize f.body.length = lf at x2 e1
        generalize g.body.length = lg at y2 e2
        clear hft hgt hfq hgq hfs' hgs' hstr p1 p2
        have hno : Hid (¬ (ft = gt ∧ fq = gq ∧ fs' = gs') → decide (fs = gs) = false) := by
          intro hn
          refine decide_eq_false fun h => hn (HE.out.2 ?_)
          subst h
          have := H.out.1.symm.trans H.out.2.1
          injection this
        have hye : Hid ((ft = gt ∧ fq = gq ∧ fs' = gs') → fs.take (k + 1) = gs.take (k + 1)) := by
          intro h
          have h2 := HE.out.1 h
          rw [List.take_add_one, List.take_add_one, H.out.1, H.out.2.1, H.out.2.2.1, h2]
        by_cases q1 : ft = gt
        · by_cases q2 : fq = gq
          · by_cases q3 : fs' = gs'
            · have Hy := Lib.hid (hye.out ⟨q1, q2, q3⟩)
              subst q1 q2 q3
              have r1 : (ft != ft) = false := by simp
              have r2 : (fq != fq) = false := by simp
              go_wp2_with fail
              go_quiet (fail)
              go_wp2_with fail
              go_roundw
              case rel => exact ⟨k + 1, by omega, by go_num, Hy.out, below_drewN H.out.2.2.2⟩
              case measure => simp [intOf]; omega
            · have Hn := Lib.hid (hno.out (fun h => q3 h.2.2))
              subst q1 q2
              have r1 : (ft != ft) = false := by simp
              have r2 : (fq != fq) = false := by simp
              have r3 := ne_toList q3
              go_wp2_with fail
              go_quiet (fail)
              go_wp2
              go_ret
              exact ⟨ret_bool Hn.out.symm, below_drewN H.out.2.2.2⟩
          · have Hn := Lib.hid (hno.out (fun h => q2 h.2.1))
            subst q1
            have r1 : (ft != ft) = false := by simp
            have r2 : (fq != gq) = true := by simp; exact q2
            go_wp2_with fail
            go_quiet (fail)
            go_wp2
            go_ret
            exact ⟨ret_bool Hn.out.symm, below_drewN H.out.2.2.2⟩
        · have Hn := Lib.hid (hno.out (fun h => q1 h.1))
          have r1 : (ft != gt) = true := by simp; exact q1
          go_wp2_with fail
          go_quiet (fail)
          go_wp2
          go_ret
          exact ⟨ret_bool Hn.out.symm, below_drewN H.out.2.2.2⟩
      · have hkl : k = la := by omega
        subst hkl
        have he : fs = gs := by
          rw [List.take_of_length_le (by omega), List.take_of_length_le (by omega)] at hpre
          exact hpre
        have Ht := Lib.hid (decide_eq_true he)
        clear hpre he
        go_wp2
        go_ret
        exact ⟨ret_bool Ht.out.symm, hB⟩
  · have hne : fs ≠ gs := fun h => by subst h; omega
    have hn := decide_eq_false hne
    rw [hn]
    have hl' : ((la : Int) != (lb : Int)) = true := by simp; omega
    clear hn hne
    go_enter Tryz.func15, Tryz.ntmps15
    go_wp2
    go_ret
    exact ⟨rfl, Below.refl _ _⟩
end
section
set_option linter.unusedSimpArgs false
set_option linter.unusedVariables false
open Go.RowKit
open Crc Frm

/-- What has been scanned, as a loop sees it. -/
structure Scanned (bs : List Nat) (first : Int) (k : Nat) (ts : List FC) : Prop where
  le : ts.length ≤ k
  eq : scan bs first = (ts.map (·.1) ++ (scan (bs.drop k) (first + (ts.length : Int))).1, k + (scan (bs.drop k) (first + (ts.length : Int))).2)
  near : ts.length = 0 ∨ (0 ≤ first ∧ first + (ts.length : Int) ≤ 1073741825)
theorem Scanned.start (bs : List Nat) (first : Int) : Scanned bs first 0 [] := ⟨Nat.le_refl _, by simp, .inl rfl⟩
theorem Scanned.step {bs : List Nat} {first : Int} {k : Nat} {ts : List FC} (h : Scanned bs first k ts) (h0 : (get (bs.drop k)).2.2 = 0) (h1 : (get (bs.drop k)).1.seq = first + (ts.length : Int)) (ba : Option Addr) (bc : Nat) :
    Scanned bs first (k + (get (bs.drop k)).2.1) (ts ++ [((get (bs.drop k)).1, ba, bc)]) := by
  obtain ⟨hr, hg, hl, _, _⟩ := get_ok _ h0
  have hn : (get (bs.drop k)).2.1 = szOf (bs.drop k) + 11 := by rw [hg]
  have hsq : (get (bs.drop k)).1 = frOf (bs.drop k) := by rw [hg]
  have e := scan_step (bs.drop k) (first + (ts.length : Int)) h0 h1
  have hd : (bs.drop k).drop (get (bs.drop k)).2.1 = bs.drop (k + (get (bs.drop k)).2.1) := by rw [List.drop_drop]
  rw [hd] at e
  have hl1 : first + (((ts ++ [((get (bs.drop k)).1, ba, bc)]).length : Nat) : Int) = first + (ts.length : Int) + 1 := by rw [List.length_append]; simp; omega
  have hle := h.le
  refine ⟨by rw [List.length_append, hn]; simp; omega, ?_, ?_⟩
  · rw [hl1, h.eq, e]
    simp
    omega
  · right
    rw [hsq] at h1
    have h2 := hr.2.2.1
    have h3 := hr.2.2.2.1
    rw [h1] at h2 h3
    rw [hl1]
    rcases h.near with h4 | h4
    · rw [h4] at h2 h3 ⊢; simp at h2 h3 ⊢; omega
    · omega
theorem Scanned.stop {bs : List Nat} {first : Int} {k : Nat} {ts : List FC} (h : Scanned bs first k ts) (hno : ¬ ((get (bs.drop k)).2.2 = 0 ∧ (get (bs.drop k)).1.seq = first + (ts.length : Int))) :
    ts.map (·.1) = (scan bs first).1 ∧ k = (scan bs first).2 := by
  rw [h.eq, scan_stop _ _ hno]
  simp

theorem num_i64 {a b : Nat} (h : a = b) : Value.int .i64 (a : Int) = .int .i64 (b : Int) := by rw [h]

/-- The bodies lie from a block on. -/
def BB (base : Nat) (ts : List FC) : Prop := ∀ t ∈ ts, ∀ b o, t.2.1 = some ⟨b, o, none⟩ → base ≤ b
set_option maxRecDepth 100000 in
set_option maxHeartbeats 1600000 in
theorem scan_anyB (a : Option Addr) (len cap : Nat) (bs : List Nat) (first : Int) (w : World) (hs : Sl w w.heap.size a len cap bs) (hlen : len ≤ 1100000) (hf0 : -9223372036854775808 ≤ first) (hf1 : first < 9223372036854775808) :
    Calls Tryz.prog 106 #[.slice a len cap, .int .i64 first] w fun e w' => ∃ v ts, e = .returned (.tuple #[v, .int .i64 (((scan bs first).2 : Nat) : Int)]) ∧ OwnF w' w.heap.size v ts ∧ ts.map (·.1) = (scan bs first).1 ∧ Below w.heap.size w w' ∧ BB w.heap.size ts := by
  have hle := hs.le
  have hmx := hs.max
  unfold maxLen at hmx
  have hbl := hs.length
  go_enter Tryz.func106, Tryz.ntmps106
  go_wp2_with fail
  go_loopw [6, 7] (fun u at' wx => ∃ (k : Nat) (au : Option Addr) (cu : Nat) (ts : List FC), k ≤ len ∧ at' = .int .i64 (k : Int) ∧ u = .slice au ts.length cu ∧ OwnF wx w.heap.size (.slice au ts.length cu) ts ∧ Scanned bs first k ts ∧ Below w.heap.size w wx ∧ BB w.heap.size ts) (fun _ i _ => len - (intOf i).toNat)
  case atStart => exact ⟨0, none, 0, [], by omega, rfl, rfl, OwnF.nil_ _ _, Scanned.start _ _, Below.refl _ _, fun t ht => by cases ht⟩
  case round =>
    obtain ⟨k, au, cu, ts, hk, rfl, rfl, ho, hsc, hB, hBB⟩ := hrel
    have HBB := Lib.hid hBB
    clear hBB
    have hs1 := ((hs.below hB (Nat.le_refl _)).more hB.size).from_ hk
    have c1 : ∀ w, (Instr.slice 38 (.slice a len cap) (some (.int .i64 (k : Int))) none none).run Tryz.prog w = .ok (.slice (fromA a cap k) (len - k) (cap - k)) w :=
      run_cut_from (P := Tryz.prog) 38 5 Tryz.underlying38 info_u8 a len cap k hk
    generalize fromA a cap k = a2 at c1 hs1
    generalize hl2 : len - k = l2 at c1 hs1
    generalize cap - k = k2 at c1 hs1
    have G := Lib.hid (get_any a2 l2 k2 _ wr hs1)
    have Hsc := Lib.hid hsc
    have hst := fun h0 h1 => Lib.hid (hsc.step h0 h1)
    have hsp := fun hno => Lib.hid (hsc.stop hno)
    have htl := hsc.le
    have hwrap : IntKind.i64.wrap (first + (ts.length : Int)) = first + (ts.length : Int) := by
      rw [IntKind.wrap_i64]
      rcases hsc.near with h | ⟨h1, h2⟩
      · rw [h]; omega
      · omega
    have hge : ∀ h0 : (get (bs.drop k)).2.2 = 0, 11 ≤ (get (bs.drop k)).2.1 ∧ (get (bs.drop k)).2.1 ≤ l2 := fun h0 => by
      obtain ⟨_, hg, hl, _, _⟩ := get_ok _ h0
      rw [hg]
      rw [List.length_drop] at hl
      simp only
      omega
    have HB9 := Lib.hid hB.size
    have Ho := Lib.hid (And.intro ho hB)
    clear hsc hs1 ho hB
    go_wp2_with fail
    refine G.out.mono ?_
    rintro e w2 ⟨ba, bc, rfl, hsb, hb2, hbb⟩
    obtain ⟨ho, hB⟩ := Ho.out
    have ho2 := ho.below hb2
    have hB2 := hB.trans (hb2.mono hB.size)
    have hbn : ∀ q, (Value.slice au ts.length cu).ownBlock = some q → q < wr.heap.size := fun q hq => (ho.at_base hq).2
    have hsz := hb2.size
    have H2 := Lib.hid (And.intro ho2 (And.intro hB2 (And.intro hsb hbb)))
    generalize hgt : get (bs.drop k) = G3 at *
    obtain ⟨f, n, er⟩ := G3
    simp only at *
    clear ho2 hB2 hsb hbb hb2 ho hB G Ho
    by_cases h0 : er = 0
    · by_cases h1 : f.seq = first + (ts.length : Int)
      · have Hst := Lib.hid ((hst h0 h1).out ba bc)
        obtain ⟨hn11, hnl⟩ := hge h0
        clear hst hsp hge
        subst h0
        have r1 : (f.seq != first + (ts.length : Int)) = false := by simp; omega
        clear h1
        have hbn2 : 0 < f.body.length → ∀ b o, ba = some ⟨b, o, none⟩ → some b ≠ (Value.slice au ts.length cu).ownBlock := fun _ b o e h => by
          have h1 := H2.out.2.2.2 b o e
          have h2 := hbn b h.symm
          omega
        have hoa : ∀ o1 o2, OwnF ((w2.alloc o1).alloc o2) w.heap.size (.slice au ts.length cu) ts := fun o1 o2 => H2.out.1.below (((Below.refl _ _).alloc (Nat.le_refl _) _).alloc (by simp) _)
        have hsa : ∀ o1 o2, Sl ((w2.alloc o1).alloc o2) ((w2.alloc o1).alloc o2).heap.size ba f.body.length bc f.body := fun o1 o2 => (H2.out.2.2.1.below (((Below.refl _ _).alloc (Nat.le_refl _) _).alloc (by simp) _) (Nat.le_refl _)).more (by simp; omega)
        have Hoa := Lib.hid (And.intro hoa hsa)
        have hwl : w.heap.size ≤ w2.heap.size := H2.out.2.1.size
        clear hoa hsa
        go_wp2_with (at_builtin; refine wpList_append_fr rfl (.tmp 32) (.tmp 34) rfl w.heap.size (.slice au ts.length cu) ts rfl (w2.heap.size + 1) (f, ba, bc) (by first | rfl | simp) (Hoa.out.1 _ _) (heap_alloc2_new _ _ _) (Hoa.out.2 _ _) hbn2 (by omega) (by simp; omega) ?_; intro v3 w3 ho3 hg3 hat3)
        have hB3 : Below w.heap.size w w3 := ((H2.out.2.1.alloc hwl _).alloc (by simp; omega) _).grown hg3 (by simp; omega) (fun q hq => (H2.out.1.at_base hq).1)
        obtain ⟨a3, c3, hv3, _⟩ := ho3.frs
        subst hv3
        have H3 := Lib.hid (And.intro ho3 hB3)
        clear ho3 hg3 hat3 hB3
        go_wp2
        refine ⟨⟨k + n, a3, c3, _, by omega, by go_num, rfl, H3.out.1, Hst.out, H3.out.2, fun t ht b o e => ?_⟩, by simp [intOf]; omega⟩
        rcases List.mem_append.1 ht with ht | ht
        · exact HBB.out t ht b o e
        · rw [List.mem_singleton] at ht
          subst ht
          exact Nat.le_trans HB9.out (H2.out.2.2.2 b o e)
      · have Hsp := hsp (by rintro ⟨_, h⟩; exact h1 h)
        clear hst hsp hge
        subst h0
        have r1 : (f.seq != first + (ts.length : Int)) = true := by simp; omega
        go_wp2
        go_ret2
        exact ⟨_, ts, ret_tup2 rfl (num_i64 Hsp.out.2), H2.out.1.below ((Below.refl _ _).alloc (Nat.le_refl _) _), Hsp.out.1, H2.out.2.1.alloc H2.out.2.1.size _, HBB.out⟩
    · have Hsp := hsp (by rintro ⟨h, _⟩; exact h0 h)
      clear hst hsp hge
      have r0 : ((er : Int) != 0) = true := by simp; omega
      go_wp2
      go_ret2
      exact ⟨_, ts, ret_tup2 rfl (num_i64 Hsp.out.2), H2.out.1.below ((Below.refl _ _).alloc (Nat.le_refl _) _), Hsp.out.1, H2.out.2.1.alloc H2.out.2.1.size _, HBB.out⟩
theorem scan_any (a : Option Addr) (len cap : Nat) (bs : List Nat) (first : Int) (w : World) (hs : Sl w w.heap.size a len cap bs) (hlen : len ≤ 100000) (hf0 : -9223372036854775808 ≤ first) (hf1 : first < 9223372036854775808) :
    Calls Tryz.prog 106 #[.slice a len cap, .int .i64 first] w fun e w' => ∃ v ts, e = .returned (.tuple #[v, .int .i64 (((scan bs first).2 : Nat) : Int)]) ∧ OwnF w' w.heap.size v ts ∧ ts.map (·.1) = (scan bs first).1 ∧ Below w.heap.size w w' :=
  (scan_anyB a len cap bs first w hs (by omega) hf0 hf1).mono fun e w' ⟨v, ts, h1, h2, h3, h4, _⟩ => ⟨v, ts, h1, h2, h3, h4⟩
end
section
set_option linter.unusedSimpArgs false
set_option linter.unusedVariables false
open Go.RowKit
open Crc Frm

/-- Get, of bytes whose answer is known. -/
theorem get_of {bs : List Nat} {f : Fr} {n er : Nat} (hg : get bs = (f, n, er)) (a : Option Addr) (len cap : Nat) (w : World) (hs : Sl w w.heap.size a len cap bs) :
    Calls Tryz.prog 166 #[.slice a len cap] w fun e w' => ∃ ba bc, e = .returned (.tuple #[.agg #[.int .i64 f.ty, .int .i64 f.seq, .slice ba f.body.length bc], .int .i64 (n : Int), .int .i64 (er : Int)]) ∧
      Sl w' w'.heap.size ba f.body.length bc f.body ∧ Below w.heap.size w w' ∧ (∀ b o, ba = some ⟨b, o, none⟩ → w.heap.size ≤ b) := by
  have := get_any a len cap bs w hs
  rw [hg] at this
  exact this
/-- Scan, of bytes whose answer is known. -/
theorem scan_of {bs : List Nat} {fs : List Fr} {n : Nat} {first : Int} (hg : scan bs first = (fs, n)) (a : Option Addr) (len cap : Nat) (w : World) (hs : Sl w w.heap.size a len cap bs) (hlen : len ≤ 100000) (hf0 : -9223372036854775808 ≤ first) (hf1 : first < 9223372036854775808) :
    Calls Tryz.prog 106 #[.slice a len cap, .int .i64 first] w fun e w' => ∃ va vc, e = .returned (.tuple #[.slice va fs.length vc, .int .i64 (n : Int)]) ∧ Frs w' w'.heap.size va fs.length vc fs ∧ Below w.heap.size w w' := by
  refine (scan_any a len cap bs first w hs hlen hf0 hf1).mono ?_
  rintro e w' ⟨v, ts, rfl, ho, hts, hb⟩
  rw [hg] at hts
  simp only at hts
  obtain ⟨va, vc, hv, hfr⟩ := ho.frs
  rw [hg]
  have hl : ts.length = fs.length := by rw [← hts, List.length_map]
  rw [hts] at hfr
  rw [hl] at hv hfr
  exact ⟨va, vc, by rw [hv], hfr, hb⟩
end
section
set_option linter.unusedSimpArgs false
set_option linter.unusedVariables false
open Go.RowKit

theorem wp_append_sl {P : Program} {w : World} {o : Oper} {a : Act} {K : Act → World → Prop} {Q : Exit → Act → World → Prop} (s x : Operand) (t : TypeId)
    (ho : o.op = .call { callee := .builtin .append, args := #[s, x], argTypes := #[t, t] })
    (base : Nat) (e : TypeId) (ht : P.underlying t = some (.slice e)) (hi : (P.info? e).map (fun i => (i.zero, i.size, i.bytes)) = some (some (.int .u8 0), 1, 1))
    (v : Value) (bs : List Nat) (hs : a.eval s = v) (hown : OwnB w base e v bs)
    (B : Nat) (A : Option Addr) (m c : Nat) (cs : List Nat) (hx : a.eval x = .slice A m c) (hc : Sl w B A m c cs)
    (hbytes : bs.length + m ≤ 140737488355328) (hbase : base ≤ w.heap.size)
    (h : ∀ v' w', OwnB w' base e v' (bs ++ cs) → w.grownBy w' v.ownBlock → (v'.ownBlock = v.ownBlock ∨ v'.ownBlock = some w.heap.size) → K (a.put o.dst v') w') :
    o.wp P a w K Q := by
  obtain ⟨i, hi, hz0, hz1, hz2⟩ := info_parts hi
  cases A with
  | none =>
    have hc0 := hc.none_ rfl
    have hm0 : m = 0 := by have := hc.le; omega
    subst hc0 hm0
    have hcs : cs = [] := List.eq_nil_of_length_eq_zero hc.length
    subst hcs
    have hrun := run_append_owned_none (P := P) (w := w) base t o.type e i 1 ht hi v bs.length (bs.map bv) hown
    unfold Oper.wp
    simp [execOp, ho, resolve, invoke, builtin, hs, hx, hrun, Result.andThen]
    exact h v w (by simpa using hown) (World.grownBy.refl w _) (.inl rfl)
  | some ad =>
    obtain ⟨v', w', hr, h1, h2, h3, h4⟩ := run_append_own_at (P := P) w base t o.type e i (.int .u8 0) 1 1 ht hi hz0 hz1 hz2 rfl (by decide) v bs.length (bs.map bv) hown ad m c (cs.map bv) (by rw [List.length_map, hc.length]; omega) hc.news (bv_one cs)
      (by unfold maxLen; omega) (by omega) hbase
    unfold Oper.wp execOp
    simp only [ho, resolve, invoke, builtin, Sem.run_bind, Sem.run_pure, Result.andThen_ok, List.map_toArray, List.map_cons, List.map_nil, hs, hx, hr]
    refine h v' w' ?_ h2 h4
    have := hc.length
    unfold OwnB
    rw [List.length_append, List.map_append, this]
    exact h1
end
section
set_option linter.unusedSimpArgs false
set_option linter.unusedVariables false
open Go.RowKit

theorem wpList_append_full {P : Program} {w : World} {ops : Array Oper} {rest : List Oper} {o : Oper} {a : Act} {Q : Exit → Act → World → Prop} (hgd : o.guard = none) (s x : Operand) (t : TypeId)
    (ho : o.op = .call { callee := .builtin .append, args := #[s, x], argTypes := #[t, t] })
    (e : TypeId) (ht : P.underlying t = some (.slice e)) (hi : (P.info? e).map (fun i => (i.zero, i.size, i.bytes)) = some (some (.int .u8 0), 1, 1))
    (B : Nat) (A : Addr) (n : Nat) (bs : List Nat) (hs : a.eval s = .slice (some A) n n) (hb : Sl w B (some A) n n bs)
    (B' : Nat) (A' : Addr) (m c : Nat) (cs : List Nat) (hx : a.eval x = .slice (some A') m c) (hc : Sl w B' (some A') m c cs)
    (hm : 0 < m) (hbytes : n + m ≤ 140737488355328)
    (h : ∀ v' w', OwnB w' w.heap.size e v' (bs ++ cs) → Below w.heap.size w w' → wpList P ops Q rest (a.put o.dst v') w') :
    wpList P ops Q (o :: rest) a w := by
  obtain ⟨i, hi, hz0, hz1, hz2⟩ := info_parts hi
  refine wpList_plain hgd fun K hK => ?_
  have hln := hb.length
  have hlm := hc.length
  have hr := run_append_grow (P := P) (w := w) t o.type e i (.int .u8 0) ht hi hz0 A n n (bs.map bv) (by rw [List.length_map, hln, hz1]; omega) hb.news A' m c (cs.map bv) (by rw [List.length_map, hlm, hz1]; omega) hc.news (by omega) (by omega) (growslice_fits (by omega) (by rw [hz2]; omega))
  unfold Oper.wp execOp
  simp only [ho, resolve, invoke, builtin, Sem.run_bind, Sem.run_pure, Result.andThen_ok, List.map_toArray, List.map_cons, List.map_nil, hs, hx, hr]
  refine hK _ _ (h _ _ ?_ ((Below.drew (Below.refl _ _)).alloc (Nat.le_refl _) _))
  have hlen : (bs ++ cs).length = n + m := by rw [List.length_append, hln, hlm]
  have hge := grownCap_ge w (n + m) n e
  have hcm : grownCap w (n + m) n e ≤ maxLen := grownCap_le_maxLen w (n + m) n e (by unfold maxLen; omega)
  unfold OwnB
  rw [hlen]
  refine ⟨by rw [List.length_map, hlen]; omega, .inr ⟨w.heap.size, _, _, rfl, Nat.le_refl _, heap_alloc_new w.drew _, hge, hcm, ?_, ?_⟩⟩
  · simp only [Array.size_append, List.size_toArray, size_zeroCells, List.length_map, hln, hlm]
    simp [Value.cells]
    omega
  · simp only [Array.toList_append, List.append_assoc]
    rw [← List.append_assoc, ← List.map_append, Nat.mul_one]
    rw [← hlen, show (bs ++ cs).length = ((bs ++ cs).map bv).length from (List.length_map _).symm]
    exact List.take_left
end
section
set_option linter.unusedSimpArgs false
set_option linter.unusedVariables false
open Go.RowKit
open Crc Frm

theorem be4_cells (n : Nat) (hn : n < 4294967296) : (#[Value.int .u8 ((n : Int) / 16777216), .int .u8 ((n : Int) / 65536 % 256), .int .u8 ((n : Int) / 256 % 256), .int .u8 ((n : Int) % 256)] : Array Value) = ((be 4 n).map fun c => Value.int .u8 ((c : Nat) : Int)).toArray := by
  have e0 : (n : Int) / 16777216 = (((n / 256 ^ 3 % 256 : Nat)) : Int) := by omega
  have e1 : (n : Int) / 65536 % 256 = (((n / 256 ^ 2 % 256 : Nat)) : Int) := by omega
  have e2 : (n : Int) / 256 % 256 = (((n / 256 ^ 1 % 256 : Nat)) : Int) := by omega
  have e3 : (n : Int) % 256 = (((n / 256 ^ 0 % 256 : Nat)) : Int) := by omega
  rw [e0, e1, e2, e3]
  rfl

set_option maxRecDepth 100000 in
set_option maxHeartbeats 800000 in
theorem swrite_any (v : Value) (bs : List Nat) (base n : Nat) (hn : n < 4294967296) (w : World) (ho : OwnB w base 5 v bs) (hb : base ≤ w.heap.size) (hlen : bs.length ≤ 1000) :
    Calls Tryz.prog 191 #[v, .int .u32 (n : Int)] w fun e w' => ∃ v', e = .returned v' ∧ OwnB w' base 5 v' (bs ++ be 4 n) ∧ Below base w w' := by
  go_enter Tryz.func191, Tryz.ntmps191
  go_wp2_with (at_builtin; refine wpList_append_sl rfl (.tmp 5) (.tmp 17) _ rfl base _ Tryz.underlying38 info_u8 v bs rfl (ho.alloc _) _ (some ⟨w.heap.size, 0, none⟩) 4 4 (be 4 n) rfl (Sl.new (heap_alloc_new w _) (by rw [be4_cells n hn]) (be_byte 4 n) 4 rfl (by rw [be_len]; decide)) (by omega) (by simp; omega) ?_; intro v1 w1 ho1 hg1 hat1)
  go_ret
  exact ⟨_, rfl, ho1, ((Below.refl _ _).alloc hb _).grown hg1 (by simp; omega) (fun k hk => (ho.at_base hk).1)⟩
set_option maxRecDepth 100000 in
set_option maxHeartbeats 800000 in
theorem swrite_full (A : Addr) (m : Nat) (bs : List Nat) (n : Nat) (hn : n < 4294967296) (w : World) (hs : Sl w w.heap.size (some A) m m bs) (hm : m ≤ 1000) :
    Calls Tryz.prog 191 #[.slice (some A) m m, .int .u32 (n : Int)] w fun e w' => ∃ v', e = .returned v' ∧ OwnB w' w.heap.size 5 v' (bs ++ be 4 n) ∧ Below w.heap.size w w' := by
  go_enter Tryz.func191, Tryz.ntmps191
  go_wp2_with (at_builtin; refine wpList_append_full rfl (.tmp 5) (.tmp 17) _ rfl _ Tryz.underlying38 info_u8 _ A m bs rfl (hs.below ((Below.refl _ w).alloc (Nat.le_refl _) _) (Nat.le_refl _)) _ ⟨w.heap.size, 0, none⟩ 4 4 (be 4 n) rfl (Sl.new (heap_alloc_new w _) (by rw [be4_cells n hn]) (be_byte 4 n) 4 rfl (by rw [be_len]; decide)) (by decide) (by omega) ?_; intro v1 w1 ho1 hB1)
  go_ret
  exact ⟨_, rfl, ho1.mono (by simp), ((Below.refl _ _).alloc (Nat.le_refl _) _).trans (hB1.mono (by simp))⟩

set_option linter.unusedSimpArgs false in
set_option maxRecDepth 100000 in
set_option maxHeartbeats 800000 in
theorem sread_any (a : Option Addr) (len cap : Nat) (bs : List Nat) (w : World) (hs : Sl w w.heap.size a len cap bs) (h4 : 4 ≤ len) :
    Calls Tryz.prog 165 #[.slice a len cap] w fun e w' => e = .returned (.int .u32 ((val (bs.take 4) : Nat) : Int)) ∧ Below w.heap.size w w' := by
  obtain ⟨b, o, rfl, hb, hc⟩ := hs.at_ (by omega)
  have c0 := hc 0 (by omega)
  have c1 := hc 1 (by omega)
  have c2 := hc 2 (by omega)
  have c3 := hc 3 (by omega)
  have b0 := hs.lt (k := 0) (by omega)
  have b1 := hs.lt (k := 1) (by omega)
  have b2 := hs.lt (k := 2) (by omega)
  have b3 := hs.lt (k := 3) (by omega)
  have i0 : 0 < len := by omega
  have i1 : (1 : Int) < (len : Int) := by omega
  have i2 : (2 : Int) < (len : Int) := by omega
  have i3 : (3 : Int) < (len : Int) := by omega
  have Hv : Hid (val (bs.take 4) = ((bs.getD 0 0 * 256 + bs.getD 1 0) * 256 + bs.getD 2 0) * 256 + bs.getD 3 0) := by
    show _ = _
    have hl := hs.length
    match bs, hl with
    | x :: y :: z :: u :: t, _ => simp [val]
    | [x, y, z], hl => simp at hl; omega
    | [x, y], hl => simp at hl; omega
    | [x], hl => simp at hl; omega
    | [], hl => simp at hl; omega
  generalize val (bs.take 4) = z at *
  generalize bs.getD 0 0 = x0 at *
  generalize bs.getD 1 0 = x1 at *
  generalize bs.getD 2 0 = x2 at *
  generalize bs.getD 3 0 = x3 at *
  clear hc hs
  have hw0 : IntKind.u32.wrap (x0 : Int) = (x0 : Int) := wraps_u32 _ (by omega) (by omega)
  have hw1 : IntKind.u32.wrap (x1 : Int) = (x1 : Int) := wraps_u32 _ (by omega) (by omega)
  have hw2 : IntKind.u32.wrap (x2 : Int) = (x2 : Int) := wraps_u32 _ (by omega) (by omega)
  have hw3 : IntKind.u32.wrap (x3 : Int) = (x3 : Int) := wraps_u32 _ (by omega) (by omega)
  have hm0 : IntKind.u32.wrap ((x0 : Int) * 16777216) = (x0 : Int) * 16777216 := wraps_u32 _ (by omega) (by omega)
  have hm1 : IntKind.u32.wrap ((x1 : Int) * 65536) = (x1 : Int) * 65536 := wraps_u32 _ (by omega) (by omega)
  have hm2 : IntKind.u32.wrap ((x2 : Int) * 256) = (x2 : Int) * 256 := wraps_u32 _ (by omega) (by omega)
  have e1 : bits .or .u32 ((x0 : Int) * 16777216) ((x1 : Int) * 65536) = (x0 : Int) * 16777216 + (x1 : Int) * 65536 := bits_join .u32 32 (by decide) wraps_u32 24 _ _ (by omega) (by omega) (by omega) (by omega) (by omega) (by omega)
  have e2 : bits .or .u32 ((x0 : Int) * 16777216 + (x1 : Int) * 65536) ((x2 : Int) * 256) = (x0 : Int) * 16777216 + (x1 : Int) * 65536 + (x2 : Int) * 256 := bits_join .u32 32 (by decide) wraps_u32 16 _ _ (by omega) (by omega) (by omega) (by omega) (by omega) (by omega)
  have e3 : bits .or .u32 ((x0 : Int) * 16777216 + (x1 : Int) * 65536 + (x2 : Int) * 256) (x3 : Int) = (z : Int) := (bits_join .u32 32 (by decide) wraps_u32 8 _ _ (by omega) (by omega) (by omega) (by omega) (by omega) (by omega)).trans (by have := Hv.out; omega)
  go_enter Tryz.func165, Tryz.ntmps165
  go_wp2_with fail
  refine wp_region_held_drew (S := fun w' => w'.cell? ⟨b, o, none⟩ = some (.int .u8 (x0 : Int)) ∧ w'.cell? ⟨b, o + 1, none⟩ = some (.int .u8 (x1 : Int)) ∧ w'.cell? ⟨b, o + 2, none⟩ = some (.int .u8 (x2 : Int)) ∧ w'.cell? ⟨b, o + 3, none⟩ = some (.int .u8 (x3 : Int))) (by kernel_rfl) ⟨c0, c1, c2, c3⟩ (fun hHeld => ?_)
  refine wpAnyH_take (i := 0) (v := ?_) rfl (by kernel_rfl) (by kernel_rfl) (by kernel_rfl) (fun _ _ _ h => h) (Or.inl ⟨by rfl, ?_⟩) (by assumption) ?_
  rotate_left
  · intro w hSw
    (try dsimp only at hSw)
    go_simp
    all_goals with_reducible rfl
  try simp only [Act.put, List.getElem_toArray, List.getElem_cons_succ, List.getElem_cons_zero, List.setIfInBounds_toArray, List.set_cons_zero, List.set_cons_succ]
  refine wpAnyH_take (i := 1) (v := ?_) rfl (by kernel_rfl) (by kernel_rfl) (by kernel_rfl) (fun _ _ _ h => h) (Or.inl ⟨by rfl, ?_⟩) (by assumption) ?_
  rotate_left
  · intro w hSw
    (try dsimp only at hSw)
    go_simp
    all_goals with_reducible rfl
  try simp only [Act.put, List.getElem_toArray, List.getElem_cons_succ, List.getElem_cons_zero, List.setIfInBounds_toArray, List.set_cons_zero, List.set_cons_succ]
  refine wpAnyH_take (i := 2) (v := ?_) rfl (by kernel_rfl) (by kernel_rfl) (by kernel_rfl) (fun _ _ _ h => h) (Or.inl ⟨by rfl, ?_⟩) (by assumption) ?_
  rotate_left
  · intro w hSw
    (try dsimp only at hSw)
    go_simp
    all_goals with_reducible rfl
  try simp only [Act.put, List.getElem_toArray, List.getElem_cons_succ, List.getElem_cons_zero, List.setIfInBounds_toArray, List.set_cons_zero, List.set_cons_succ]
  refine wpAnyH_take (i := 3) (v := ?_) rfl (by kernel_rfl) (by kernel_rfl) (by kernel_rfl) (fun _ _ _ h => h) (Or.inl ⟨by rfl, ?_⟩) (by assumption) ?_
  rotate_left
  · intro w hSw
    (try dsimp only at hSw)
    go_simp
    all_goals with_reducible rfl
  try simp only [Act.put, List.getElem_toArray, List.getElem_cons_succ, List.getElem_cons_zero, List.setIfInBounds_toArray, List.set_cons_zero, List.set_cons_succ]
  refine wpAnyH_take (i := 4) (v := ?_) rfl (by kernel_rfl) (by kernel_rfl) (by kernel_rfl) (fun _ _ _ h => h) (Or.inl ⟨by rfl, ?_⟩) (by assumption) ?_
  rotate_left
  · intro w hSw
    (try dsimp only at hSw)
    go_simp
    all_goals with_reducible rfl
  try simp only [Act.put, List.getElem_toArray, List.getElem_cons_succ, List.getElem_cons_zero, List.setIfInBounds_toArray, List.set_cons_zero, List.set_cons_succ]
  refine wpAnyH_take (i := 5) (v := ?_) rfl (by kernel_rfl) (by kernel_rfl) (by kernel_rfl) (fun _ _ _ h => h) (Or.inl ⟨by rfl, ?_⟩) (by assumption) ?_
  rotate_left
  · intro w hSw
    (try dsimp only at hSw)
    go_simp
    all_goals with_reducible rfl
  try simp only [Act.put, List.getElem_toArray, List.getElem_cons_succ, List.getElem_cons_zero, List.setIfInBounds_toArray, List.set_cons_zero, List.set_cons_succ]
  refine wpAnyH_take (i := 6) (v := ?_) rfl (by kernel_rfl) (by kernel_rfl) (by kernel_rfl) (fun _ _ _ h => h) (Or.inl ⟨by rfl, ?_⟩) (by assumption) ?_
  rotate_left
  · intro w hSw
    (try dsimp only at hSw)
    go_simp
    all_goals with_reducible rfl
  try simp only [Act.put, List.getElem_toArray, List.getElem_cons_succ, List.getElem_cons_zero, List.setIfInBounds_toArray, List.set_cons_zero, List.set_cons_succ]
  refine wpAnyH_take (i := 7) (v := ?_) rfl (by kernel_rfl) (by kernel_rfl) (by kernel_rfl) (fun _ _ _ h => h) (Or.inl ⟨by rfl, ?_⟩) (by assumption) ?_
  rotate_left
  · intro w hSw
    (try dsimp only at hSw)
    go_simp
    all_goals with_reducible rfl
  try simp only [Act.put, List.getElem_toArray, List.getElem_cons_succ, List.getElem_cons_zero, List.setIfInBounds_toArray, List.set_cons_zero, List.set_cons_succ]
  refine wpAnyH_take (i := 8) (v := ?_) rfl (by kernel_rfl) (by kernel_rfl) (by kernel_rfl) (fun _ _ _ h => h) (Or.inl ⟨by rfl, ?_⟩) (by assumption) ?_
  rotate_left
  · intro w hSw
    (try dsimp only at hSw)
    go_simp
    all_goals with_reducible rfl
  try simp only [Act.put, List.getElem_toArray, List.getElem_cons_succ, List.getElem_cons_zero, List.setIfInBounds_toArray, List.set_cons_zero, List.set_cons_succ]
  refine wpAnyH_take (i := 9) (v := ?_) rfl (by kernel_rfl) (by kernel_rfl) (by kernel_rfl) (fun _ _ _ h => h) (Or.inl ⟨by rfl, ?_⟩) (by assumption) ?_
  rotate_left
  · intro w hSw
    (try dsimp only at hSw)
    go_simp
    all_goals with_reducible rfl
  try simp only [Act.put, List.getElem_toArray, List.getElem_cons_succ, List.getElem_cons_zero, List.setIfInBounds_toArray, List.set_cons_zero, List.set_cons_succ]
  refine wpAnyH_take (i := 10) (v := ?_) rfl (by kernel_rfl) (by kernel_rfl) (by kernel_rfl) (fun _ _ _ h => h) (Or.inl ⟨by rfl, ?_⟩) (by assumption) ?_
  rotate_left
  · intro w hSw
    (try dsimp only at hSw)
    go_simp
    all_goals with_reducible rfl
  try simp only [Act.put, List.getElem_toArray, List.getElem_cons_succ, List.getElem_cons_zero, List.setIfInBounds_toArray, List.set_cons_zero, List.set_cons_succ]
  refine wpAnyH_take (i := 11) (v := ?_) rfl (by kernel_rfl) (by kernel_rfl) (by kernel_rfl) (fun _ _ _ h => h) (Or.inl ⟨by rfl, ?_⟩) (by assumption) ?_
  rotate_left
  · intro w hSw
    (try dsimp only at hSw)
    go_simp
    all_goals with_reducible rfl
  try simp only [Act.put, List.getElem_toArray, List.getElem_cons_succ, List.getElem_cons_zero, List.setIfInBounds_toArray, List.set_cons_zero, List.set_cons_succ]
  refine wpAnyH_take (i := 12) (v := ?_) rfl (by kernel_rfl) (by kernel_rfl) (by kernel_rfl) (fun _ _ _ h => h) (Or.inl ⟨by rfl, ?_⟩) (by assumption) ?_
  rotate_left
  · intro w hSw
    (try dsimp only at hSw)
    go_simp
    all_goals with_reducible rfl
  try simp only [Act.put, List.getElem_toArray, List.getElem_cons_succ, List.getElem_cons_zero, List.setIfInBounds_toArray, List.set_cons_zero, List.set_cons_succ]
  refine wpAnyH_take (i := 13) (v := ?_) rfl (by kernel_rfl) (by kernel_rfl) (by kernel_rfl) (fun _ _ _ h => h) (Or.inl ⟨by rfl, ?_⟩) (by assumption) ?_
  rotate_left
  · intro w hSw
    (try dsimp only at hSw)
    go_simp
    all_goals with_reducible rfl
  try simp only [Act.put, List.getElem_toArray, List.getElem_cons_succ, List.getElem_cons_zero, List.setIfInBounds_toArray, List.set_cons_zero, List.set_cons_succ]
  refine wpAnyH_take (i := 14) (v := ?_) rfl (by kernel_rfl) (by kernel_rfl) (by kernel_rfl) (fun _ _ _ h => h) (Or.inl ⟨by rfl, ?_⟩) (by assumption) ?_
  rotate_left
  · intro w hSw
    (try dsimp only at hSw)
    go_simp
    all_goals with_reducible rfl
  try simp only [Act.put, List.getElem_toArray, List.getElem_cons_succ, List.getElem_cons_zero, List.setIfInBounds_toArray, List.set_cons_zero, List.set_cons_succ]
  refine wpAnyH_take (i := 15) (v := ?_) rfl (by kernel_rfl) (by kernel_rfl) (by kernel_rfl) (fun _ _ _ h => h) (Or.inl ⟨by rfl, ?_⟩) (by assumption) ?_
  rotate_left
  · intro w hSw
    (try dsimp only at hSw)
    go_simp
    all_goals with_reducible rfl
  try simp only [Act.put, List.getElem_toArray, List.getElem_cons_succ, List.getElem_cons_zero, List.setIfInBounds_toArray, List.set_cons_zero, List.set_cons_succ]
  refine wpAnyH_take (i := 16) (v := ?_) rfl (by kernel_rfl) (by kernel_rfl) (by kernel_rfl) (fun _ _ _ h => h) (Or.inl ⟨by rfl, ?_⟩) (by assumption) ?_
  rotate_left
  · intro w hSw
    (try dsimp only at hSw)
    go_simp
    all_goals with_reducible rfl
  try simp only [Act.put, List.getElem_toArray, List.getElem_cons_succ, List.getElem_cons_zero, List.setIfInBounds_toArray, List.set_cons_zero, List.set_cons_succ]
  refine wpAnyH_take (i := 17) (v := ?_) rfl (by kernel_rfl) (by kernel_rfl) (by kernel_rfl) (fun _ _ _ h => h) (Or.inl ⟨by rfl, ?_⟩) (by assumption) ?_
  rotate_left
  · intro w hSw
    (try dsimp only at hSw)
    go_simp
    all_goals with_reducible rfl
  try simp only [Act.put, List.getElem_toArray, List.getElem_cons_succ, List.getElem_cons_zero, List.setIfInBounds_toArray, List.set_cons_zero, List.set_cons_succ]
  refine wpAnyH_take (i := 18) (v := ?_) rfl (by kernel_rfl) (by kernel_rfl) (by kernel_rfl) (fun _ _ _ h => h) (Or.inl ⟨by rfl, ?_⟩) (by assumption) ?_
  rotate_left
  · intro w hSw
    (try dsimp only at hSw)
    go_simp
    all_goals with_reducible rfl
  try simp only [Act.put, List.getElem_toArray, List.getElem_cons_succ, List.getElem_cons_zero, List.setIfInBounds_toArray, List.set_cons_zero, List.set_cons_succ]
  refine wpAnyH_take (i := 19) (v := ?_) rfl (by kernel_rfl) (by kernel_rfl) (by kernel_rfl) (fun _ _ _ h => h) (Or.inl ⟨by rfl, ?_⟩) (by assumption) ?_
  rotate_left
  · intro w hSw
    (try dsimp only at hSw)
    go_simp
    all_goals with_reducible rfl
  try simp only [Act.put, List.getElem_toArray, List.getElem_cons_succ, List.getElem_cons_zero, List.setIfInBounds_toArray, List.set_cons_zero, List.set_cons_succ]
  refine wpAnyH_take (i := 20) (v := ?_) rfl (by kernel_rfl) (by kernel_rfl) (by kernel_rfl) (fun _ _ _ h => h) (Or.inl ⟨by rfl, ?_⟩) (by assumption) ?_
  rotate_left
  · intro w hSw
    (try dsimp only at hSw)
    go_simp
    all_goals with_reducible rfl
  try simp only [Act.put, List.getElem_toArray, List.getElem_cons_succ, List.getElem_cons_zero, List.setIfInBounds_toArray, List.set_cons_zero, List.set_cons_succ]
  refine wpAnyH_take (i := 21) (v := ?_) rfl (by kernel_rfl) (by kernel_rfl) (by kernel_rfl) (fun _ _ _ h => h) (Or.inl ⟨by rfl, ?_⟩) (by assumption) ?_
  rotate_left
  · intro w hSw
    (try dsimp only at hSw)
    go_simp
    all_goals with_reducible rfl
  try simp only [Act.put, List.getElem_toArray, List.getElem_cons_succ, List.getElem_cons_zero, List.setIfInBounds_toArray, List.set_cons_zero, List.set_cons_succ]
  refine wpAnyH_take (i := 22) (v := ?_) rfl (by kernel_rfl) (by kernel_rfl) (by kernel_rfl) (fun _ _ _ h => h) (Or.inl ⟨by rfl, ?_⟩) (by assumption) ?_
  rotate_left
  · intro w hSw
    (try dsimp only at hSw)
    go_simp
    all_goals with_reducible rfl
  try simp only [Act.put, List.getElem_toArray, List.getElem_cons_succ, List.getElem_cons_zero, List.setIfInBounds_toArray, List.set_cons_zero, List.set_cons_succ]
  refine wpAnyH_done (by kernel_rfl) ?_ _
  go_wp2
  go_ret
  exact ⟨rfl, Below.drew (Below.refl _ _)⟩

set_option maxRecDepth 100000 in
set_option maxHeartbeats 800000 in
theorem segHead_yes (n : Nat) (hn : n ≤ 1073741824) (w : World) :
    Calls Tryz.prog 147 #[.int .i64 (n : Int)] w fun e w' => ∃ v, e = .returned v ∧ OwnB w' w.heap.size 5 v (head n) ∧ Below w.heap.size w w' := by
  have hi := Lib.hid (first_yes (n : Int) (by omega) (by omega))
  have hwn : IntKind.u32.wrap (n : Int) = (n : Int) := wraps_u32 _ (by omega) (by omega)
  have kc := fun (w : World) (C : Array Value) (n c : Nat) => Lib.run_convert_bytes_const (P := Tryz.prog) w 38 5 C n c Tryz.underlying38 Tryz.underlying5
  have W1 := Lib.hid (swrite_full ⟨w.heap.size, 0, none⟩ 4 magic n (by omega) (w.alloc (.cells #[.int .u8 71, .int .u8 79, .int .u8 86, .int .u8 49] 5 (4, 5))) (Sl.new (heap_alloc_new w _) (by rfl) (by decide) 4 rfl (by decide)) (by decide))
  go_enter Tryz.func147, Tryz.ntmps147
  go_wp2_with (first | (go_at_call 102; refine (hi.out _).mono ?_; rintro e w1 ⟨rfl, rfl⟩) | fail)
  refine W1.out.mono ?_
  rintro e w2 ⟨v2, rfl, ho2, hb2⟩
  have ho2 := ho2.mono (base' := w.heap.size) (by simp)
  have hB2 : Below w.heap.size w w2 := ((Below.refl _ _).alloc (Nat.le_refl _) _).trans (hb2.mono (by simp))
  obtain ⟨a2, c2, hv2, hs2⟩ := ho2.sl (hd0_byte n)
  rw [show (magic ++ be 4 n).length = 8 from hd0_len n] at hv2 hs2
  subst hv2
  have OF := Lib.hid (of_any a2 8 c2 _ w2 hs2)
  have hml := more_lt 0 (magic ++ be 4 n)
  have H2 := Lib.hid (And.intro ho2 hB2)
  clear hb2 ho2 hB2 hs2 W1 hi kc
  go_wp2_with fail
  refine OF.out.mono ?_
  rintro e w3 ⟨rfl, hb3⟩
  have hB3 := H2.out.2.trans (hb3.mono H2.out.2.size)
  have W3 := Lib.hid (swrite_any _ _ w.heap.size _ hml w3 (H2.out.1.below hb3) hB3.size (by rw [show (magic ++ be 4 n).length = 8 from hd0_len n]; decide))
  have HB3 := Lib.hid hB3
  clear hb3 hB3 H2 OF
  go_wp2_with fail
  refine W3.out.mono ?_
  rintro e w4 ⟨v4, rfl, ho4, hb4⟩
  have HH := Lib.hid (And.intro ho4 (HB3.out.trans hb4))
  clear ho4 hb4 W3 HB3
  go_wp2
  go_ret
  exact ⟨_, rfl, HH.out.1, HH.out.2⟩
theorem segHead_no (n : Int) (h : ¬ (0 ≤ n ∧ n ≤ 1073741824)) (w : World) :
    Calls Tryz.prog 147 #[.int .i64 n] w fun e w' => e = .returned (.slice none 0 0) ∧ w = w' := by
  have hi := Lib.hid (first_no n h)
  clear h
  go_enter Tryz.func147, Tryz.ntmps147
  go_wp2_with (first | (go_at_call 102; refine (hi.out _).mono ?_; rintro e w1 ⟨rfl, rfl⟩) | fail)
  go_ret
  exact ⟨rfl, rfl⟩
end
section
set_option linter.unusedSimpArgs false
set_option linter.unusedVariables false
open Go.RowKit
open Crc Frm

theorem val4_lt {bs : List Nat} (hb : ∀ c ∈ bs, c < 256) (k : Nat) : val ((bs.drop k).take 4) < 4294967296 := by
  have h1 := val_lt ((bs.drop k).take 4) (fun c hc => hb c (List.mem_of_mem_drop (List.mem_of_mem_take hc)))
  have h2 : ((bs.drop k).take 4).length ≤ 4 := List.length_take_le _ _
  have h3 := Nat.pow_le_pow_right (n := 256) (by decide) h2
  omega

set_option linter.unusedSimpArgs false in
set_option maxRecDepth 100000 in
set_option maxHeartbeats 1600000 in
theorem readHead_any (a : Option Addr) (len cap : Nat) (bs : List Nat) (w : World) (hs : Sl w w.heap.size a len cap bs) :
    Calls Tryz.prog 105 #[.slice a len cap] w fun e w' => e = .returned (.tuple #[.int .i64 (((rh bs).1 : Nat) : Int), .int .i64 (((rh bs).2 : Nat) : Int)]) ∧ Below w.heap.size w w' := by
  have hbl := hs.length
  have hle := hs.le
  have hmx := hs.max
  unfold maxLen at hmx
  by_cases h12 : len < 12
  · have hr : rh bs = (0, 13) := by unfold rh; rw [if_pos (by omega)]
    rw [hr]
    have h12' : (len : Int) < 12 := by omega
    go_enter Tryz.func105, Tryz.ntmps105
    go_wp2
    go_ret2
    exact ⟨rfl, Below.refl _ _⟩
  · have h12' : (12 : Int) ≤ (len : Int) := by omega
    have s4 := hs.take (k := 4) (by omega)
    have c4 : ∀ w, (Instr.slice 38 (.slice a len cap) none (some (.int .i64 4)) none).run Tryz.prog w = .ok (.slice a 4 cap) w := run_cut_to (P := Tryz.prog) 38 5 Tryz.underlying38 info_u8 a len cap 4 (by omega)
    have cv := run_str (P := Tryz.prog) s4 38 5 9 Tryz.underlying38 Tryz.underlying5 Tryz.underlying9
    have hmg : strOf magic = ⟨#[71, 79, 86, 49]⟩ := by decide +kernel
    by_cases hm : bs.take 4 = magic
    · rw [hm, hmg] at cv
      have s8 := hs.take (k := 8) (by omega)
      have c8 : ∀ w, (Instr.slice 38 (.slice a len cap) none (some (.int .i64 8)) none).run Tryz.prog w = .ok (.slice a 8 cap) w := run_cut_to (P := Tryz.prog) 38 5 Tryz.underlying38 info_u8 a len cap 8 (by omega)
      have f8 := hs.from_ (k := 8) (by omega)
      have d8 : ∀ w, (Instr.slice 38 (.slice a len cap) (some (.int .i64 8)) none none).run Tryz.prog w = .ok (.slice (fromA a cap 8) (len - 8) (cap - 8)) w := run_cut_from (P := Tryz.prog) 38 5 Tryz.underlying38 info_u8 a len cap 8 (by omega)
      have f4 := hs.from_ (k := 4) (by omega)
      have d4 : ∀ w, (Instr.slice 38 (.slice a len cap) (some (.int .i64 4)) none none).run Tryz.prog w = .ok (.slice (fromA a cap 4) (len - 4) (cap - 4)) w := run_cut_from (P := Tryz.prog) 38 5 Tryz.underlying38 info_u8 a len cap 4 (by omega)
      generalize fromA a cap 8 = a8 at f8 d8
      generalize cap - 8 = k8 at f8 d8
      generalize hl8 : len - 8 = l8 at f8 d8
      generalize fromA a cap 4 = a4 at f4 d4
      generalize cap - 4 = k4 at f4 d4
      generalize hl4 : len - 4 = l4 at f4 d4
      have R8 := Lib.hid (sread_any a8 l8 k8 _ w.drew f8.drew (by omega))
      have OF := Lib.hid (fun (w' : World) (hb : Below w.heap.size w w') => of_any a 8 cap _ w' ((s8.below hb (Nat.le_refl _)).more hb.size))
      have R4 := Lib.hid (fun (w' : World) (hb : Below w.heap.size w w') => sread_any a4 l4 k4 _ w' ((f4.below hb (Nat.le_refl _)).more hb.size) (by omega))
      have hv4 := val4_lt hs.byte 4
      have Hr : Hid (rh bs = if val ((bs.drop 8).take 4) ≠ more 0 (bs.take 8) then (0, 14) else if 1073741824 < val ((bs.drop 4).take 4) then (0, 12) else (val ((bs.drop 4).take 4), 0)) := by
        show _ = _; unfold rh; rw [if_neg (by omega), if_neg (by rw [hm]; exact fun h => h rfl)]
      generalize rh bs = r at Hr ⊢
      generalize val ((bs.drop 8).take 4) = z8 at R8 Hr
      generalize val ((bs.drop 4).take 4) = z4 at R4 Hr hv4
      generalize more 0 (bs.take 8) = zs at OF Hr
      clear f8 f4 s8 s4 hl8 hl4 hs hm hmg
      by_cases h8 : z8 = zs
      · subst h8
        have r1 : ((z8 : Int) != (z8 : Int)) = false := by simp
        have hwz : IntKind.i64.wrap (z4 : Int) = (z4 : Int) := by rw [IntKind.wrap_i64]; omega
        by_cases h30 : z4 ≤ 1073741824
        · have hf := Lib.hid (first_yes (z4 : Int) (by omega) (by omega))
          have hr := Hr.out
          rw [if_neg (by simp), if_neg (by omega)] at hr
          rw [hr]
          clear hr Hr
          go_enter Tryz.func105, Tryz.ntmps105
          go_wp2_with fail
          refine wp_region_held_drew (S := fun w' => Below w.heap.size w w') (by kernel_rfl) (Below.drew (Below.refl _ _)) (fun hHeld => ?_)
          refine wpAnyH_take (i := 0) (v := ?_) rfl (by kernel_rfl) (by kernel_rfl) (by kernel_rfl) (fun _ _ _ h => h) (Or.inl ⟨by rfl, ?_⟩) (by assumption) ?_
          rotate_left
          · intro w hSw
            (try dsimp only at hSw)
            go_simp
            all_goals with_reducible rfl
          try simp only [Act.put, List.getElem_toArray, List.getElem_cons_succ, List.getElem_cons_zero, List.setIfInBounds_toArray, List.set_cons_zero, List.set_cons_succ]
          refine wpAnyH_take (i := 1) (v := ?_) rfl (by kernel_rfl) (by kernel_rfl) (by kernel_rfl) (fun _ _ _ h => h) (Or.inl ⟨by rfl, ?_⟩) (by assumption) ?_
          rotate_left
          · intro w hSw
            (try dsimp only at hSw)
            go_simp
            all_goals with_reducible rfl
          try simp only [Act.put, List.getElem_toArray, List.getElem_cons_succ, List.getElem_cons_zero, List.setIfInBounds_toArray, List.set_cons_zero, List.set_cons_succ]
          refine wpAnyH_take (i := 3) (v := ?_) rfl (by kernel_rfl) (by kernel_rfl) (by kernel_rfl) (fun _ _ _ h => h) (Or.inl ⟨by rfl, ?_⟩) (by assumption) ?_
          rotate_left
          · intro w hSw
            (try dsimp only at hSw)
            go_simp
            all_goals with_reducible rfl
          try simp only [Act.put, List.getElem_toArray, List.getElem_cons_succ, List.getElem_cons_zero, List.setIfInBounds_toArray, List.set_cons_zero, List.set_cons_succ]
          refine wpAnyH_take (i := 4) (v := ?_) rfl (by kernel_rfl) (by kernel_rfl) (by kernel_rfl) (fun _ _ _ h => h) (Or.inl ⟨by rfl, ?_⟩) (by assumption) ?_
          rotate_left
          · intro w hSw
            (try dsimp only at hSw)
            go_simp
            all_goals with_reducible rfl
          try simp only [Act.put, List.getElem_toArray, List.getElem_cons_succ, List.getElem_cons_zero, List.setIfInBounds_toArray, List.set_cons_zero, List.set_cons_succ]
          refine wpAnyH_ready (rs := [2]) (by kernel_rfl) (by simp) ?_
          refine AllReadyH.cons rfl (fun K hK => ?_) AllReadyH.nil
          rw [if_pos (by rfl)]
          go_simp
          go_at_call 165
          refine R8.out.mono ?_
          rintro e w2 ⟨rfl, hb2⟩
          have hB2 : Below w.heap.size w w2 := below_drew_of hb2
          clear hb2
          refine hK.out _ _ ?_ (fun hHeld => ?_)
          · exact hB2
          clear hK K
          try simp only [Act.put, List.getElem_toArray, List.getElem_cons_succ, List.getElem_cons_zero, List.setIfInBounds_toArray, List.set_cons_zero, List.set_cons_succ]
          refine wpAnyH_ready (rs := [5]) (by kernel_rfl) (by simp) ?_
          refine AllReadyH.cons rfl (fun K hK => ?_) AllReadyH.nil
          rw [if_pos (by rfl)]
          go_simp
          go_at_call 124
          refine (OF.out _ hB2).mono ?_
          rintro e w3 ⟨rfl, hb3⟩
          have hB3 := hB2.trans (hb3.mono hB2.size)
          clear hb3
          refine hK.out _ _ ?_ (fun hHeld => ?_)
          · exact hB3
          clear hK K
          try simp only [Act.put, List.getElem_toArray, List.getElem_cons_succ, List.getElem_cons_zero, List.setIfInBounds_toArray, List.set_cons_zero, List.set_cons_succ]
          refine wpAnyH_take (i := 6) (v := ?_) rfl (by kernel_rfl) (by kernel_rfl) (by kernel_rfl) (fun _ _ _ h => h) (Or.inl ⟨by rfl, ?_⟩) (by assumption) ?_
          rotate_left
          · intro w hSw
            (try dsimp only at hSw)
            go_simp
            all_goals with_reducible rfl
          try simp only [Act.put, List.getElem_toArray, List.getElem_cons_succ, List.getElem_cons_zero, List.setIfInBounds_toArray, List.set_cons_zero, List.set_cons_succ]
          refine wpAnyH_done (by kernel_rfl) ?_ _
          clear hB2 hHeld OF R8
          go_wp2_with (first
            | (go_at_call 165; refine (R4.out _ hB3).mono ?_; rintro e w4 ⟨rfl, hb4⟩)
            | (go_at_call 102; refine (hf.out _).mono ?_; rintro e w5 ⟨rfl, rfl⟩))
          go_ret2
          exact ⟨rfl, hB3.trans (hb4.mono hB3.size)⟩
        · have hf := Lib.hid (first_no (z4 : Int) (by omega))
          have hr := Hr.out
          rw [if_neg (by simp), if_pos (by omega)] at hr
          rw [hr]
          clear hr Hr
          go_enter Tryz.func105, Tryz.ntmps105
          go_wp2_with fail
          refine wp_region_held_drew (S := fun w' => Below w.heap.size w w') (by kernel_rfl) (Below.drew (Below.refl _ _)) (fun hHeld => ?_)
          refine wpAnyH_take (i := 0) (v := ?_) rfl (by kernel_rfl) (by kernel_rfl) (by kernel_rfl) (fun _ _ _ h => h) (Or.inl ⟨by rfl, ?_⟩) (by assumption) ?_
          rotate_left
          · intro w hSw
            (try dsimp only at hSw)
            go_simp
            all_goals with_reducible rfl
          try simp only [Act.put, List.getElem_toArray, List.getElem_cons_succ, List.getElem_cons_zero, List.setIfInBounds_toArray, List.set_cons_zero, List.set_cons_succ]
          refine wpAnyH_take (i := 1) (v := ?_) rfl (by kernel_rfl) (by kernel_rfl) (by kernel_rfl) (fun _ _ _ h => h) (Or.inl ⟨by rfl, ?_⟩) (by assumption) ?_
          rotate_left
          · intro w hSw
            (try dsimp only at hSw)
            go_simp
            all_goals with_reducible rfl
          try simp only [Act.put, List.getElem_toArray, List.getElem_cons_succ, List.getElem_cons_zero, List.setIfInBounds_toArray, List.set_cons_zero, List.set_cons_succ]
          refine wpAnyH_take (i := 3) (v := ?_) rfl (by kernel_rfl) (by kernel_rfl) (by kernel_rfl) (fun _ _ _ h => h) (Or.inl ⟨by rfl, ?_⟩) (by assumption) ?_
          rotate_left
          · intro w hSw
            (try dsimp only at hSw)
            go_simp
            all_goals with_reducible rfl
          try simp only [Act.put, List.getElem_toArray, List.getElem_cons_succ, List.getElem_cons_zero, List.setIfInBounds_toArray, List.set_cons_zero, List.set_cons_succ]
          refine wpAnyH_take (i := 4) (v := ?_) rfl (by kernel_rfl) (by kernel_rfl) (by kernel_rfl) (fun _ _ _ h => h) (Or.inl ⟨by rfl, ?_⟩) (by assumption) ?_
          rotate_left
          · intro w hSw
            (try dsimp only at hSw)
            go_simp
            all_goals with_reducible rfl
          try simp only [Act.put, List.getElem_toArray, List.getElem_cons_succ, List.getElem_cons_zero, List.setIfInBounds_toArray, List.set_cons_zero, List.set_cons_succ]
          refine wpAnyH_ready (rs := [2]) (by kernel_rfl) (by simp) ?_
          refine AllReadyH.cons rfl (fun K hK => ?_) AllReadyH.nil
          rw [if_pos (by rfl)]
          go_simp
          go_at_call 165
          refine R8.out.mono ?_
          rintro e w2 ⟨rfl, hb2⟩
          have hB2 : Below w.heap.size w w2 := below_drew_of hb2
          clear hb2
          refine hK.out _ _ ?_ (fun hHeld => ?_)
          · exact hB2
          clear hK K
          try simp only [Act.put, List.getElem_toArray, List.getElem_cons_succ, List.getElem_cons_zero, List.setIfInBounds_toArray, List.set_cons_zero, List.set_cons_succ]
          refine wpAnyH_ready (rs := [5]) (by kernel_rfl) (by simp) ?_
          refine AllReadyH.cons rfl (fun K hK => ?_) AllReadyH.nil
          rw [if_pos (by rfl)]
          go_simp
          go_at_call 124
          refine (OF.out _ hB2).mono ?_
          rintro e w3 ⟨rfl, hb3⟩
          have hB3 := hB2.trans (hb3.mono hB2.size)
          clear hb3
          refine hK.out _ _ ?_ (fun hHeld => ?_)
          · exact hB3
          clear hK K
          try simp only [Act.put, List.getElem_toArray, List.getElem_cons_succ, List.getElem_cons_zero, List.setIfInBounds_toArray, List.set_cons_zero, List.set_cons_succ]
          refine wpAnyH_take (i := 6) (v := ?_) rfl (by kernel_rfl) (by kernel_rfl) (by kernel_rfl) (fun _ _ _ h => h) (Or.inl ⟨by rfl, ?_⟩) (by assumption) ?_
          rotate_left
          · intro w hSw
            (try dsimp only at hSw)
            go_simp
            all_goals with_reducible rfl
          try simp only [Act.put, List.getElem_toArray, List.getElem_cons_succ, List.getElem_cons_zero, List.setIfInBounds_toArray, List.set_cons_zero, List.set_cons_succ]
          refine wpAnyH_done (by kernel_rfl) ?_ _
          clear hB2 hHeld OF R8
          go_wp2_with (first
            | (go_at_call 165; refine (R4.out _ hB3).mono ?_; rintro e w4 ⟨rfl, hb4⟩)
            | (go_at_call 102; refine (hf.out _).mono ?_; rintro e w5 ⟨rfl, rfl⟩))
          go_ret2
          exact ⟨rfl, hB3.trans (hb4.mono hB3.size)⟩
      · have r1 : ((z8 : Int) != (zs : Int)) = true := by simp; omega
        have hr := Hr.out
        rw [if_pos h8] at hr
        rw [hr]
        clear hr Hr h8
        go_enter Tryz.func105, Tryz.ntmps105
        go_wp2_with fail
        refine wp_region_held_drew (S := fun w' => Below w.heap.size w w') (by kernel_rfl) (Below.drew (Below.refl _ _)) (fun hHeld => ?_)
        refine wpAnyH_take (i := 0) (v := ?_) rfl (by kernel_rfl) (by kernel_rfl) (by kernel_rfl) (fun _ _ _ h => h) (Or.inl ⟨by rfl, ?_⟩) (by assumption) ?_
        rotate_left
        · intro w hSw
          (try dsimp only at hSw)
          go_simp
          all_goals with_reducible rfl
        try simp only [Act.put, List.getElem_toArray, List.getElem_cons_succ, List.getElem_cons_zero, List.setIfInBounds_toArray, List.set_cons_zero, List.set_cons_succ]
        refine wpAnyH_take (i := 1) (v := ?_) rfl (by kernel_rfl) (by kernel_rfl) (by kernel_rfl) (fun _ _ _ h => h) (Or.inl ⟨by rfl, ?_⟩) (by assumption) ?_
        rotate_left
        · intro w hSw
          (try dsimp only at hSw)
          go_simp
          all_goals with_reducible rfl
        try simp only [Act.put, List.getElem_toArray, List.getElem_cons_succ, List.getElem_cons_zero, List.setIfInBounds_toArray, List.set_cons_zero, List.set_cons_succ]
        refine wpAnyH_take (i := 3) (v := ?_) rfl (by kernel_rfl) (by kernel_rfl) (by kernel_rfl) (fun _ _ _ h => h) (Or.inl ⟨by rfl, ?_⟩) (by assumption) ?_
        rotate_left
        · intro w hSw
          (try dsimp only at hSw)
          go_simp
          all_goals with_reducible rfl
        try simp only [Act.put, List.getElem_toArray, List.getElem_cons_succ, List.getElem_cons_zero, List.setIfInBounds_toArray, List.set_cons_zero, List.set_cons_succ]
        refine wpAnyH_take (i := 4) (v := ?_) rfl (by kernel_rfl) (by kernel_rfl) (by kernel_rfl) (fun _ _ _ h => h) (Or.inl ⟨by rfl, ?_⟩) (by assumption) ?_
        rotate_left
        · intro w hSw
          (try dsimp only at hSw)
          go_simp
          all_goals with_reducible rfl
        try simp only [Act.put, List.getElem_toArray, List.getElem_cons_succ, List.getElem_cons_zero, List.setIfInBounds_toArray, List.set_cons_zero, List.set_cons_succ]
        refine wpAnyH_ready (rs := [2]) (by kernel_rfl) (by simp) ?_
        refine AllReadyH.cons rfl (fun K hK => ?_) AllReadyH.nil
        rw [if_pos (by rfl)]
        go_simp
        go_at_call 165
        refine R8.out.mono ?_
        rintro e w2 ⟨rfl, hb2⟩
        have hB2 : Below w.heap.size w w2 := below_drew_of hb2
        clear hb2
        refine hK.out _ _ ?_ (fun hHeld => ?_)
        · exact hB2
        clear hK K
        try simp only [Act.put, List.getElem_toArray, List.getElem_cons_succ, List.getElem_cons_zero, List.setIfInBounds_toArray, List.set_cons_zero, List.set_cons_succ]
        refine wpAnyH_ready (rs := [5]) (by kernel_rfl) (by simp) ?_
        refine AllReadyH.cons rfl (fun K hK => ?_) AllReadyH.nil
        rw [if_pos (by rfl)]
        go_simp
        go_at_call 124
        refine (OF.out _ hB2).mono ?_
        rintro e w3 ⟨rfl, hb3⟩
        have hB3 := hB2.trans (hb3.mono hB2.size)
        clear hb3
        refine hK.out _ _ ?_ (fun hHeld => ?_)
        · exact hB3
        clear hK K
        try simp only [Act.put, List.getElem_toArray, List.getElem_cons_succ, List.getElem_cons_zero, List.setIfInBounds_toArray, List.set_cons_zero, List.set_cons_succ]
        refine wpAnyH_take (i := 6) (v := ?_) rfl (by kernel_rfl) (by kernel_rfl) (by kernel_rfl) (fun _ _ _ h => h) (Or.inl ⟨by rfl, ?_⟩) (by assumption) ?_
        rotate_left
        · intro w hSw
          (try dsimp only at hSw)
          go_simp
          all_goals with_reducible rfl
        try simp only [Act.put, List.getElem_toArray, List.getElem_cons_succ, List.getElem_cons_zero, List.setIfInBounds_toArray, List.set_cons_zero, List.set_cons_succ]
        refine wpAnyH_done (by kernel_rfl) ?_ _
        clear hB2 hHeld OF R8 R4
        go_wp2
        go_ret2
        exact ⟨rfl, hB3⟩
    · have hr : rh bs = (0, 12) := by unfold rh; rw [if_neg (by omega), if_pos hm]
      rw [hr]
      have hne : strOf (bs.take 4) ≠ ⟨#[71, 79, 86, 49]⟩ := by
        rw [← hmg]
        exact fun h => hm (strOf_inj s4.byte (by decide) h)
      generalize strOf (bs.take 4) = z at cv hne
      have hq : (z.toList == [71, 79, 86, 49]) = false := by
        have h := ne_toList hne
        rw [show (⟨#[71, 79, 86, 49]⟩ : ByteArray).toList = [71, 79, 86, 49] from by rw [ByteArray.toList_eq]] at h
        exact h
      clear hmg hm s4 hr hne
      go_enter Tryz.func105, Tryz.ntmps105
      go_wp2
      go_ret2
      exact ⟨rfl, Below.refl _ _⟩

theorem rh_ok (bs : List Nat) (h : (rh bs).2 = 0) : (rh bs).1 ≤ 1073741824 ∧ 12 ≤ bs.length := by
  unfold rh at *
  split at h
  · simp at h
  split at h
  · simp at h
  split at h
  · simp at h
  split at h
  · simp at h
  · rename_i h1 h2 h3 h4
    rw [if_neg h1, if_neg h2, if_neg h3, if_neg h4]
    exact ⟨by simp only; omega, by omega⟩

set_option maxRecDepth 100000 in
set_option maxHeartbeats 1600000 in
theorem segRead_anyB (a : Option Addr) (len cap : Nat) (bs : List Nat) (w : World) (hs : Sl w w.heap.size a len cap bs) (hlen : len ≤ 1100000) :
    Calls Tryz.prog 56 #[.slice a len cap] w fun e w' => ∃ v ts, e = .returned (.tuple #[.int .i64 (((rd bs).1 : Nat) : Int), v, .int .i64 (((rd bs).2.2.1 : Nat) : Int), .int .i64 (((rd bs).2.2.2 : Nat) : Int)]) ∧ OwnF w' w.heap.size v ts ∧ ts.map (·.1) = (rd bs).2.1 ∧ Below w.heap.size w w' ∧ BB w.heap.size ts := by
  have hbl := hs.length
  have RH := Lib.hid (readHead_any a len cap bs w hs)
  have Hrd : Hid (rd bs = if (rh bs).2 ≠ 0 then (0, [], 0, (rh bs).2) else ((rh bs).1, (scan (bs.drop 12) ((rh bs).1 : Int)).1, 12 + (scan (bs.drop 12) ((rh bs).1 : Int)).2, 0)) := rfl
  have hok := rh_ok bs
  generalize rd bs = r at Hrd ⊢
  obtain ⟨⟨f, er⟩, hx⟩ : ∃ x, x = rh bs := ⟨_, rfl⟩
  rw [← hx] at hok RH Hrd
  clear hx
  simp only at hok RH Hrd
  by_cases h0 : er = 0
  · subst h0
    obtain ⟨hf, h12⟩ := hok rfl
    have hr := Hrd.out
    rw [if_neg (by simp)] at hr
    rw [hr]
    clear hr Hrd hok
    have h12' : (12 : Int) ≤ (len : Int) := by omega
    have f12 := hs.from_ (k := 12) (by omega)
    have d12 : ∀ w, (Instr.slice 38 (.slice a len cap) (some (.int .i64 12)) none none).run Tryz.prog w = .ok (.slice (fromA a cap 12) (len - 12) (cap - 12)) w := run_cut_from (P := Tryz.prog) 38 5 Tryz.underlying38 info_u8 a len cap 12 (by omega)
    generalize fromA a cap 12 = a2 at f12 d12
    generalize cap - 12 = k2 at f12 d12
    generalize hl2 : len - 12 = l2 at f12 d12
    have hsl : (scan (bs.drop 12) (f : Int)).2 ≤ 1100000 := by
      have := scan_le (bs.length + 1) (bs.drop 12) (f : Int) (by rw [List.length_drop]; omega)
      rw [List.length_drop] at this
      omega
    have SC := Lib.hid (fun (w' : World) (hb : Below w.heap.size w w') => scan_anyB a2 l2 k2 (bs.drop 12) (f : Int) w' ((f12.below hb (Nat.le_refl _)).more hb.size) (by omega) (by omega) (by omega))
    generalize scan (bs.drop 12) (f : Int) = sc at SC hsl
    obtain ⟨fs, n⟩ := sc
    simp only at SC hsl ⊢
    clear f12 hl2 hs
    go_enter Tryz.func56, Tryz.ntmps56
    go_wp2_with fail
    refine RH.out.mono ?_
    rintro e w1 ⟨rfl, hb1⟩
    go_wp2_with fail
    refine (SC.out _ hb1).mono ?_
    rintro e w2 ⟨v, ts, rfl, ho, hts, hb2, hbb⟩
    have H := Lib.hid (And.intro (ho.mono hb1.size) (And.intro hts (And.intro (hb1.trans (hb2.mono hb1.size)) (fun t ht b o e => Nat.le_trans hb1.size (hbb t ht b o e) : BB w.heap.size ts))))
    clear ho hts hb2 hb1 hbb SC RH
    have hwn : IntKind.i64.wrap (12 + (n : Int)) = 12 + (n : Int) := by rw [IntKind.wrap_i64]; omega
    go_wp2
    refine bodyPost_ret (v := .tuple #[.int .i64 (f : Int), v, .int .i64 (12 + (n : Int)), .int .i64 0]) (by simp [results, Tryz.results56, go_sem]) (by rfl) ?_
    exact ⟨v, ts, rfl, H.out.1, H.out.2.1, H.out.2.2⟩
  · have hr := Hrd.out
    rw [if_pos h0] at hr
    rw [hr]
    clear hr Hrd hok
    have r1 : ((er : Int) != 0) = true := by simp; omega
    go_enter Tryz.func56, Tryz.ntmps56
    go_wp2_with fail
    refine RH.out.mono ?_
    rintro e w1 ⟨rfl, hb1⟩
    have H := Lib.hid hb1
    clear hb1 RH
    go_wp2
    refine bodyPost_ret (v := .tuple #[.int .i64 0, .slice none 0 0, .int .i64 0, .int .i64 (er : Int)]) (by simp [results, Tryz.results56, go_sem]) (by rfl) ?_
    exact ⟨_, [], rfl, OwnF.nil_ _ _, rfl, H.out, fun t ht => by cases ht⟩
theorem segRead_any (a : Option Addr) (len cap : Nat) (bs : List Nat) (w : World) (hs : Sl w w.heap.size a len cap bs) (hlen : len ≤ 100000) :
    Calls Tryz.prog 56 #[.slice a len cap] w fun e w' => ∃ v ts, e = .returned (.tuple #[.int .i64 (((rd bs).1 : Nat) : Int), v, .int .i64 (((rd bs).2.2.1 : Nat) : Int), .int .i64 (((rd bs).2.2.2 : Nat) : Int)]) ∧ OwnF w' w.heap.size v ts ∧ ts.map (·.1) = (rd bs).2.1 ∧ Below w.heap.size w w' :=
  (segRead_anyB a len cap bs w hs (by omega)).mono fun e w' ⟨v, ts, h1, h2, h3, h4, _⟩ => ⟨v, ts, h1, h2, h3, h4⟩
/-- Read, of bytes whose answer is known. -/
theorem segRead_of {bs : List Nat} {f : Nat} {fs : List Fr} {n er : Nat} (hr : rd bs = (f, fs, n, er)) (a : Option Addr) (len cap : Nat) (w : World) (hs : Sl w w.heap.size a len cap bs) (hlen : len ≤ 100000) :
    Calls Tryz.prog 56 #[.slice a len cap] w fun e w' => ∃ va vc, e = .returned (.tuple #[.int .i64 (f : Int), .slice va fs.length vc, .int .i64 (n : Int), .int .i64 (er : Int)]) ∧ Frs w' w'.heap.size va fs.length vc fs ∧ Below w.heap.size w w' := by
  refine (segRead_any a len cap bs w hs hlen).mono ?_
  rintro e w' ⟨v, ts, rfl, ho, hts, hb⟩
  rw [hr] at hts ⊢
  simp only at hts
  obtain ⟨va, vc, hv, hfr⟩ := ho.frs
  have hl : ts.length = fs.length := by rw [← hts, List.length_map]
  rw [hts] at hfr
  rw [hl] at hv hfr
  exact ⟨va, vc, by rw [hv], hfr, hb⟩
end
end Go.Proofs.YtechgmohdabkpaaGreatDoor

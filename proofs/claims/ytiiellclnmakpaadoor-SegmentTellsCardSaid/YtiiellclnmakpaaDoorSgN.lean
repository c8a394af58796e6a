/- Contracts of the program's segment: Name, First. -/
import Derived.Test.YtiiellclnmakpaaDoorSgA
import Derived.Test.YtiiellclnmakpaaDoorLib
import Derived.Test.YtiiellclnmakpaaDoorMem
import Derived.Test.YtiiellclnmakpaaDoorProg
import Derived.Test.YtiiellclnmakpaaDoorChecked
import Derived.Test.YtiiellclnmakpaaDoorTake
import Derived.Lib.AppendIntMem
namespace Go.Proofs.YtiiellclnmakpaaDoor
open Go.RowKit
open Sgn

/-- What start-up code laid, and nothing has turned: the table of powers, the two errors. -/
structure Laid (w : World) : Prop where
  tab : Lib.TabIs Tryd.prog w "internal/strconv.uint64pow10" .u64 Lib.pow10Tab
  syn : ∃ ev, w.cell? ⟨0, 0, none⟩ = some ev ∧ (ev = .nilIface ∨ ∃ te pe, ev = .iface te pe)
  rng : ∃ ev, w.cell? ⟨1, 0, none⟩ = some ev ∧ (ev = .nilIface ∨ ∃ te pe, ev = .iface te pe)
theorem Laid.on {w w' : World} (h : Laid w) (hb : Below w.heap.size w w') : Laid w' :=
  ⟨Lib.tabBelow_of_tabIs h.tab w' hb, by
    obtain ⟨ev, h1, h2⟩ := h.syn
    exact ⟨ev, (hb.cell (block_lt_of_cell h1)).trans h1, h2⟩, by
    obtain ⟨ev, h1, h2⟩ := h.rng
    exact ⟨ev, (hb.cell (block_lt_of_cell h1)).trans h1, h2⟩⟩
theorem ret_str {a b : ByteArray} (h : a = b) : Ending.returned (.string a) = .returned (.string b) := by rw [h]

theorem first_yes (n : Int) (h0 : 0 ≤ n) (h1 : n ≤ 1073741824) (w : World) : Calls Tryd.prog 25 #[.int .i64 n] w fun e w' => e = .returned (.bool true) ∧ w = w' := by
  have d0 : decide (0 ≤ n) = true := by simpa using h0
  have d1 : decide (n ≤ 1073741824) = true := by simpa using h1
  go_enter Tryd.func25, Tryd.ntmps25
  go_wp2
  go_ret
  exact ⟨rfl, rfl⟩
theorem first_no (n : Int) (h : ¬ (0 ≤ n ∧ n ≤ 1073741824)) (w : World) : Calls Tryd.prog 25 #[.int .i64 n] w fun e w' => e = .returned (.bool false) ∧ w = w' := by
  by_cases h0 : 0 ≤ n
  · have h1 : decide (n ≤ 1073741824) = false := by simp; omega
    have d0 : decide (0 ≤ n) = true := by simpa using h0
    clear h
    go_enter Tryd.func25, Tryd.ntmps25
    go_wp2
    go_ret
    exact ⟨rfl, rfl⟩
  · have h1 : decide (0 ≤ n) = false := by simp; omega
    clear h h0
    go_enter Tryd.func25, Tryd.ntmps25
    go_wp2
    go_ret
    exact ⟨rfl, rfl⟩

set_option maxRecDepth 100000 in
set_option maxHeartbeats 800000 in
theorem name_any (n : Int) (w : World) (hL : Laid w) : Calls Tryd.prog 9 #[.int .i64 n] w fun e w' => e = .returned (.string ⟨(nm n).toArray⟩) ∧ Below w.heap.size w w' := by
  by_cases h : 0 ≤ n ∧ n ≤ 1073741824
  · have hl := itoa_len h.1 h.2
    have Hn : Hid (nm n = 115 :: (Lib.repeatL [48] (10 - (Lib.itoa n).length) ++ Lib.itoa n)) := by show _ = _; unfold nm; rw [if_pos h]
    have FI := Lib.hid (Tryd.strconv_FormatInt_10 n (by omega) (by omega) w hL.tab)
    have hi := Lib.hid (first_yes n h.1 h.2)
    clear h hL
    generalize Lib.itoa n = l at hl Hn FI
    generalize nm n = r at Hn ⊢
    obtain ⟨k, hk⟩ : ∃ k, k = 10 - l.length := ⟨_, rfl⟩
    rw [← hk] at Hn
    have hkl : (k : Int) = 10 - (l.length : Int) := by omega
    have hk10 : k ≤ 10 := by omega
    have RP := Lib.hid (fun w => Tryd.strings_Repeat ⟨#[48]⟩ k w (by omega) (by show 1 * k ≤ _; omega))
    have Hk := Lib.hid hk
    clear hk
    go_enter Tryd.func9, Tryd.ntmps9
    go_wp2_with (first | (go_at_call 25; refine (hi.out _).mono ?_; rintro e w1 ⟨rfl, rfl⟩) | fail)
    refine FI.out.mono ?_
    rintro e w2 ⟨rfl, kk, os, hw2⟩
    have hB2 : Below w.heap.size w w2 := by rw [hw2]; exact Lib.below_grow _ w (Nat.le_refl _) kk os
    clear hw2 FI hi
    go_wp2_with fail
    rw [← hkl]
    refine (RP.out w2).mono ?_
    rintro e w3 ⟨rfl, hb3⟩
    have hB3 := hB2.trans (hb3.mono hB2.size)
    clear hkl hb3 RP
    have hrl := Lib.repeatL_length [48] k
    generalize Lib.repeatL [48] k = z at Hn hrl
    have hz : z.length ≤ 10 := by rw [hrl]; simp; omega
    clear hrl
    go_wp2
    go_ret
    exact ⟨ret_str (by rw [Hn.out]; apply ByteArray.ext; simp), hB3⟩
  · rw [nm_no h]
    have hi := Lib.hid (first_no n h)
    clear h hL
    go_enter Tryd.func9, Tryd.ntmps9
    go_wp2_with (first | (go_at_call 25; refine (hi.out _).mono ?_; rintro e w1 ⟨rfl, rfl⟩) | fail)
    go_ret
    exact ⟨rfl, Below.refl _ _⟩
theorem trim_le (l p : List UInt8) : (Lib.trimPrefix l p).length ≤ l.length := by
  unfold Lib.trimPrefix
  split
  · rw [List.length_drop]; omega
  · exact Nat.le_refl _
theorem ba_eq (s : ByteArray) (l : List UInt8) (h : l = s.data.toList) : (⟨l.toArray⟩ : ByteArray) = s := by subst h; obtain ⟨⟨l⟩⟩ := s; rfl
theorem ba_ne (s : ByteArray) (l : List UInt8) (h : l ≠ s.data.toList) : (⟨l.toArray⟩ : ByteArray) ≠ s := by
  rintro rfl
  exact h rfl

set_option maxRecDepth 100000 in
set_option maxHeartbeats 800000 in
theorem segFirst_any (s : ByteArray) (hs : s.size ≤ 140737488355328) (w : World) (hL : Laid w) : Calls Tryd.prog 5 #[.string s] w fun e w' =>
    e = .returned (.tuple #[.int .i64 (fst s.data.toList).1, .bool (fst s.data.toList).2]) ∧ Below w.heap.size w w' := by
  have TP := Lib.hid (Tryd.strings_TrimPrefix s ⟨#[115]⟩)
  have hsz : (Lib.trimPrefix s.data.toList [115]).length ≤ 140737488355328 := Nat.le_trans (trim_le _ _) (by rw [← Lib.size_eq]; exact hs)
  have Hf : Hid (fst s.data.toList = match Lib.parseIntB 64 (Lib.trimPrefix s.data.toList [115]) with
    | .ok v => if nm v = s.data.toList then (v, true) else (0, false)
    | _ => (0, false)) := rfl
  have TP : Hid (∀ w, Calls Tryd.prog 19 #[.string s, .string ⟨#[115]⟩] w fun e w' => e = .returned (.string ⟨(Lib.trimPrefix s.data.toList [115]).toArray⟩) ∧ w = w') := fun w => (TP.out w).mono fun _ _ h => ⟨h.1, h.2.symm⟩
  generalize Lib.trimPrefix s.data.toList [115] = t at TP hsz Hf
  have hts : (⟨t.toArray⟩ : ByteArray).size ≤ 140737488355328 := hsz
  have HL := Lib.hid hL
  clear hL hsz
  rcases hp : Lib.parseIntB 64 t with v | _ | _
  · have PI := Lib.hid (fun w => Tryd.strconv_ParseInt_10_at64_ok ⟨t.toArray⟩ (by omega) v (by simpa using hp) w)
    have hf := Hf.out
    rw [hp] at hf
    simp only at hf
    clear Hf hp
    have NA := Lib.hid (fun w hL => name_any v w hL)
    by_cases hn : nm v = s.data.toList
    · rw [if_pos hn] at hf
      rw [hf]
      have he := ba_eq s _ hn
      rw [he] at NA
      clear hf hn he
      go_enter Tryd.func5, Tryd.ntmps5
      go_wp2_with (first
        | (go_at_call 19; refine (TP.out _).mono ?_; rintro e w1 ⟨rfl, rfl⟩)
        | (go_at_call 18; refine (PI.out _).mono ?_; rintro e w2 ⟨rfl, hw2⟩; have hB2 : Below w.heap.size w w2 := (by rcases hw2 with rfl | ⟨z, rfl⟩ <;> first | exact Below.refl _ _ | exact Lib.bytesWorld_below _ _ _); clear hw2)
        | (go_at_call 9; refine (NA.out _ (HL.out.on hB2)).mono ?_; rintro e w3 ⟨rfl, hb3⟩))
      go_ret2
      exact ⟨rfl, hB2.trans (hb3.mono hB2.size)⟩
    · rw [if_neg hn] at hf
      rw [hf]
      have he := ba_ne s _ hn
      obtain ⟨z, hz⟩ : ∃ z : ByteArray, z = ⟨(nm v).toArray⟩ := ⟨_, rfl⟩
      rw [← hz] at NA he
      have hq : (z.toList == s.toList) = false := by
        rw [beq_eq_false_iff_ne]; intro h; rw [ByteArray.toList_eq, ByteArray.toList_eq] at h; exact he (ByteArray.ext (Array.toList_inj.1 h))
      clear hf hn hz he
      go_enter Tryd.func5, Tryd.ntmps5
      go_wp2_with (first
        | (go_at_call 19; refine (TP.out _).mono ?_; rintro e w1 ⟨rfl, rfl⟩)
        | (go_at_call 18; refine (PI.out _).mono ?_; rintro e w2 ⟨rfl, hw2⟩; have hB2 : Below w.heap.size w w2 := (by rcases hw2 with rfl | ⟨z, rfl⟩ <;> first | exact Below.refl _ _ | exact Lib.bytesWorld_below _ _ _); clear hw2)
        | (go_at_call 9; refine (NA.out _ (HL.out.on hB2)).mono ?_; rintro e w3 ⟨rfl, hb3⟩))
      go_ret2
      exact ⟨rfl, hB2.trans (hb3.mono hB2.size)⟩
  · have hp' := hp
    have hf := Hf.out
    rw [hp] at hf
    simp only at hf
    rw [hf]
    clear Hf hp hf
    obtain ⟨ev, hev1, hev2⟩ := HL.out.syn
    have PI := Lib.hid (Tryd.strconv_ParseInt_10_at64_syntax ⟨t.toArray⟩ (by omega) (hp'.trans rfl) ev w hev1 hev2)
    clear hev1 hev2 hp'
    go_enter Tryd.func5, Tryd.ntmps5
    go_wp2_with (first
        | (go_at_call 19; refine (TP.out _).mono ?_; rintro e w1 ⟨rfl, rfl⟩)
        | (go_at_call 18; refine PI.out.mono ?_; rintro e w2 ⟨N, rfl, _, _, hB2⟩))
    go_ret2
    exact ⟨rfl, hB2⟩
  · have hp' := hp
    have hf := Hf.out
    rw [hp] at hf
    simp only at hf
    rw [hf]
    clear Hf hp hf
    obtain ⟨ev, hev1, hev2⟩ := HL.out.rng
    have PI := Lib.hid (Tryd.strconv_ParseInt_10_at64_range ⟨t.toArray⟩ (by omega) hp' ev w hev1 hev2)
    clear hev1 hev2 hp'
    go_enter Tryd.func5, Tryd.ntmps5
    go_wp2_with (first
        | (go_at_call 19; refine (TP.out _).mono ?_; rintro e w1 ⟨rfl, rfl⟩)
        | (go_at_call 18; refine PI.out.mono ?_; rintro e w2 ⟨N, rfl, _, _, hB2⟩))
    go_ret2
    exact ⟨rfl, hB2⟩
end Go.Proofs.YtiiellclnmakpaaDoor

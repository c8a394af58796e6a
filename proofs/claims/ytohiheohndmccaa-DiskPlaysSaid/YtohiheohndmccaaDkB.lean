/- Contracts of the program's disk: names, what is kept, New; look-ups. -/
import Derived.Test.YtohiheohndmccaaDkA
import Derived.Deep.QuietTactic
import Derived.BigQuiet
namespace Go.Proofs.Ytohiheohndmccaa
open Go.RowKit
open Go.Maps

theorem inName_any (c : Nat) (hc : c < 256) (w : World) : Calls Try.prog 52 #[.int .u8 (c : Int)] w fun e w' => e = .returned (.bool (chOk c)) ∧ w = w' := by
  have Hc := Lib.hid hc
  clear hc
  go_enter Try.func52, Try.ntmps52
  go_wp2
  all_goals
    go_ret
    refine ⟨ret_bool ?_, rfl⟩
    unfold chOk
    rw [Bool.eq_iff_iff]
    simp
    try omega

set_option maxRecDepth 100000 in
set_option maxHeartbeats 800000 in
theorem isName_any (s : ByteArray) (hs : s.size ≤ maxLen) (w : World) : Calls Try.prog 38 #[.string s] w fun e w' => e = .returned (.bool (nmOk s.data.toList)) ∧ w = w' := by
  unfold maxLen at hs
  have hlen : s.data.toList.length = s.size := by simp
  by_cases h1 : 1 ≤ s.size
  · by_cases h16 : s.size ≤ 16
    · have Hn : Hid (nmOk s.data.toList = s.data.toList.all fun c => chOk c.toNat) := by
        show _ = _
        unfold nmOk
        rw [hlen]
        simp [h1, h16]
      go_enter Try.func38, Try.ntmps38
      go_wp2_with fail
      go_loop [14] (fun i => ∃ k : Nat, k ≤ s.size ∧ i = .int .i64 k ∧ ((s.data.toList.take k).all fun c => chOk c.toNat) = true) (fun i => s.size - (intOf i).toNat)
      case atStart => exact ⟨0, Nat.zero_le _, rfl, rfl⟩
      case round =>
        obtain ⟨k, hk, rfl, hall⟩ := hrel
        by_cases hlt : k < s.size
        · have hts : s.data.toList.take (k + 1) = s.data.toList.take k ++ [s[k]] := by
            rw [List.take_succ_eq_append_getElem (by simpa using hlt)]; rfl
          have IN := Lib.hid (inName_any s[k].toNat s[k].toNat_lt)
          have Ha : Hid (((s.data.toList.take (k + 1)).all fun c => chOk c.toNat) = chOk s[k].toNat) := by
            show _ = _
            rw [hts, List.all_append, hall]; simp
          have Hf : Hid (chOk s[k].toNat = false → (s.data.toList.all fun c => chOk c.toNat) = false) := by
            intro hf
            rw [List.all_eq_false]
            exact ⟨s[k], by have : s[k] = s.data.toList[k]'(by simpa using hlt) := rfl
                            rw [this]; exact List.getElem_mem _, by simp [hf]⟩
          clear hts hall
          cases hb : chOk s[k].toNat
          · rw [hb] at Ha
            have Hf := Hf.out hb
            rw [hb] at IN
            have Hr := Lib.hid (Hn.out.trans Hf)
            clear hb Ha Hn Hf
            go_wp2_with (go_at_call 52; refine (IN.out _).mono ?_; rintro e w' ⟨rfl, rfl⟩)
            go_ret
            exact ⟨ret_bool Hr.out.symm, rfl⟩
          · have Ha := Lib.hid (Ha.out.trans hb)
            rw [hb] at IN
            clear hb Hf
            go_wp2_with (go_at_call 52; refine (IN.out _).mono ?_; rintro e w' ⟨rfl, rfl⟩)
            go_round
            case rel => exact ⟨k + 1, by omega, by go_num, Ha.out⟩
            case measure => simp [intOf]; omega
        · have hkn : k = s.size := by omega
          subst hkn
          rw [List.take_of_length_le (by simp)] at hall
          have Hr := Lib.hid (Hn.out.trans hall)
          clear hall Hn
          go_wp2
          go_ret
          exact ⟨ret_bool Hr.out.symm, rfl⟩
    · have Hn : Hid (nmOk s.data.toList = false) := by
        show _ = _
        unfold nmOk
        rw [hlen]
        simp [h16]
      go_enter Try.func38, Try.ntmps38
      go_wp2
      go_ret
      exact ⟨ret_bool Hn.out.symm, rfl⟩
  · have h0 : s.size = 0 := by omega
    have Hn : Hid (nmOk s.data.toList = false) := by
      show _ = _
      unfold nmOk
      rw [hlen]
      simp [h1]
    have h1' : s.size < 1 := by omega
    clear hlen
    go_enter Try.func38, Try.ntmps38
    go_wp2
    go_ret
    exact ⟨ret_bool Hn.out.symm, rfl⟩
end Go.Proofs.Ytohiheohndmccaa

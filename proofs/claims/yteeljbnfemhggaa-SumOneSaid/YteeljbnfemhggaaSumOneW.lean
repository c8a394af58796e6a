/- SumOne: the walk. -/
import Derived.Test.YteeljbnfemhggaaSumH
import Derived.Test.YteeljbnfemhggaaOwn
namespace Go.Proofs.Yteeljbnfemhggaa
open Go.RowKit
open Crc

set_option maxHeartbeats 1600000 in
theorem sumOne_in (a : Option Addr) (la ca : Nat) (xs : List Nat) (b : Option Addr) (lb cb : Nat) (bs : List Nat) (m : Option Addr) (lm cm : Nat) (ms : List Nat) (w : World)
    (hsa : Sl w w.heap.size a la ca xs) (hsb : Sl w w.heap.size b lb cb bs) (hsm : Sl w w.heap.size m lm cm ms) (h1 : la ≤ 3000) (h2 : lb ≤ 3000) (h3 : lm ≤ 900) :
    Calls Try.prog 7 #[.slice a la ca, .slice b lb cb, .slice m lm cm] w fun e w' => e = .returned (.bool true) ∧ Below w.heap.size w w' := by
  have hmle := hsm.le
  have hmx := hsm.max
  unfold maxLen at hmx
  go_enter Try.func7, Try.ntmps7
  go_wp2_with fail
  refine (head_any _).mono ?_
  rintro e w1 ⟨rfl, hb1⟩
  go_wp2_with fail
  refine (of_any a la ca xs _ ((hsa.below hb1 (Nat.le_refl _)).more hb1.size)).mono ?_
  rintro e w2 ⟨rfl, hb2⟩
  have hB2 : Below w.heap.size w w2 := hb1.trans (hb2.mono hb1.size)
  have hsl := more_lt 0 xs
  obtain ⟨s, hs⟩ : ∃ s, s = more 0 xs := ⟨_, rfl⟩
  rw [← hs] at hsl
  rw [← hs]
  have Hs := Lib.hid hs
  clear hs hb1 hb2
  go_wp2_with fail
  go_loopw [9, 10] (fun t i wr => ∃ k y : Nat, k ≤ lm ∧ y < 4294967296 ∧ i = .int .i64 (k : Int) ∧ t = .int .u32 (y : Int) ∧ y = more s (ms.take k) ∧ Below w.heap.size w wr) (fun _ i _ => lm - (intOf i).toNat)
  case atStart => exact ⟨0, s, by omega, hsl, rfl, rfl, by rw [List.take_zero, more_nil hsl], hB2⟩
  case round =>
    obtain ⟨k, y, hk, hy, rfl, rfl, he, hB⟩ := hrel
    have He := Lib.hid he
    clear he
    have hsm' := (hsm.below hB (Nat.le_refl _)).more hB.size
    by_cases hlt : k < lm
    · have hmid := hsm'.mid (j := k) (k := k + 1) (by omega) (by omega)
      have c1 := run_cut_mid (P := Try.prog) 22 5 Try.underlying22 info_u8 m lm cm k (k + 1) (by omega) (by omega)
      rw [show ((k + 1 : Nat) : Int) = (k : Int) + 1 from by omega] at c1
      have c2 : ∀ w, (Instr.slice 22 (.slice m lm cm) (some (.int .i64 (k : Int))) (some (.int .i64 ((k : Int) + 1))) none).run Try.prog w = .ok (.slice (fromA m cm k) (k + 1 - k) (cm - k)) w := c1
      clear c1
      have Hn : Hid (more y ((ms.take (k + 1)).drop k) = more s (ms.take (k + 1))) := by
        show _ = _
        have e : ms.take (k + 1) = ms.take k ++ (ms.take (k + 1)).drop k := by
          have := List.take_append_drop k (ms.take (k + 1))
          rw [List.take_take, Nat.min_eq_left (by omega)] at this
          exact this.symm
        conv => rhs; rw [e]
        rw [more_append _ _ _ (fun c hc => hsm.byte c (List.mem_of_mem_take hc)), He.out]
      generalize fromA m cm k = m2 at c2 hmid
      generalize k + 1 - k = l2 at c2 hmid
      generalize cm - k = q2 at c2 hmid
      go_wp2_with fail
      refine (more_any y hy m2 l2 q2 _ _ hmid).mono ?_
      rintro e w3 ⟨rfl, hb3⟩
      rw [Hn.out]
      have hnl := more_lt s (ms.take (k + 1))
      obtain ⟨z, hz⟩ : ∃ z, z = more s (ms.take (k + 1)) := ⟨_, rfl⟩
      rw [← hz] at hnl
      rw [← hz]
      have Hz := Lib.hid hz
      clear hz
      go_wp2
      exact ⟨⟨k + 1, z, by omega, hnl, by go_num, rfl, Hz.out, hB.trans (hb3.mono hB.size)⟩, by simp [intOf]; omega⟩
    · have hge : (lm : Int) ≤ (k : Int) := by omega
      have ey : y = more s ms := by rw [He.out, List.take_of_length_le (by have := hsm.length; omega)]
      have Ey := Lib.hid ey
      clear ey
      go_wp2_with fail
      refine (of_any a la ca xs _ ((hsa.below hB (Nat.le_refl _)).more hB.size)).mono ?_
      rintro e w3 ⟨rfl, hb3⟩
      rw [← Hs.out]
      have hB3 : Below w.heap.size w w3 := hB.trans (hb3.mono hB.size)
      clear hb3 hsm'
      go_wp2_with fail
      refine (more_any s hsl m lm cm ms _ ((hsm.below hB3 (Nat.le_refl _)).more hB3.size)).mono ?_
      rintro e w4 ⟨rfl, hb4⟩
      rw [← Ey.out]
      have hB4 : Below w.heap.size w w4 := hB3.trans (hb4.mono hB3.size)
      clear hb4 hB3
      go_wp2_with fail
      refine (of_any b lb cb bs _ ((hsb.below hB4 (Nat.le_refl _)).more hB4.size)).mono ?_
      rintro e w5 ⟨rfl, hb5⟩
      have hB5 : Below w.heap.size w w5 := hB4.trans (hb5.mono hB4.size)
      clear hb5 hB4
      have hul := more_lt 0 bs
      obtain ⟨u, hu⟩ : ∃ u, u = more 0 bs := ⟨_, rfl⟩
      rw [← hu] at hul
      rw [← hu]
      have Hu := Lib.hid hu
      clear hu
      go_wp2_with fail
      refine (more_any u hul m lm cm ms _ ((hsm.below hB5 (Nat.le_refl _)).more hB5.size)).mono ?_
      rintro e w6 ⟨rfl, hb6⟩
      have hB6 : Below w.heap.size w w6 := hB5.trans (hb6.mono hB5.size)
      clear hb6 hB5
      have hiff := more_inj hsl hul hsm.byte
      rw [← Ey.out] at hiff
      obtain ⟨v, hv⟩ : ∃ v, v = more u ms := ⟨_, rfl⟩
      rw [← hv] at hiff
      rw [← hv]
      clear hv
      have hq : ((y : Int) == (v : Int)) = ((s : Int) == (u : Int)) := by
        rw [Bool.eq_iff_iff, beq_iff_eq, beq_iff_eq]
        omega
      have Hq := Lib.hid hq
      clear hq hiff
      go_wp2_with fail
      refine (of_any b lb cb bs _ ((hsb.below hB6 (Nat.le_refl _)).more hB6.size)).mono ?_
      rintro e w7 ⟨rfl, hb7⟩
      rw [← Hu.out]
      have hB7 : Below w.heap.size w w7 := hB6.trans (hb7.mono hB6.size)
      clear hb7 hB6
      have hq := Hq.out
      generalize ((y : Int) == (v : Int)) = p at hq
      subst hq
      go_wp2
      go_ret
      exact ⟨by simp, hB7⟩

theorem sumOne_walk (a : Option Addr) (la ca : Nat) (xs : List Nat) (b : Option Addr) (lb cb : Nat) (bs : List Nat) (m : Option Addr) (lm cm : Nat) (ms : List Nat) (w : World)
    (hsa : Sl w w.heap.size a la ca xs) (hsb : Sl w w.heap.size b lb cb bs) (hsm : Sl w w.heap.size m lm cm ms) :
    Calls Try.prog 7 #[.slice a la ca, .slice b lb cb, .slice m lm cm] w fun e w' => e = .returned (.bool true) ∧ Below w.heap.size w w' := by
  by_cases h1 : la ≤ 3000
  · by_cases h2 : lb ≤ 3000
    · by_cases h3 : lm ≤ 900
      · exact sumOne_in a la ca xs b lb cb bs m lm cm ms w hsa hsb hsm h1 h2 h3
      all_goals
        have g1 : (la : Int) ≤ 3000 := by omega
        have g2 : (lb : Int) ≤ 3000 := by omega
        have g3 : (900 : Int) < (lm : Int) := by omega
        go_enter Try.func7, Try.ntmps7
        go_wp2_with fail
        refine (head_any _).mono ?_
        rintro e w1 ⟨rfl, hb1⟩
        go_wp2
        go_ret
        exact ⟨by simp, hb1⟩
    · have g1 : (la : Int) ≤ 3000 := by omega
      have g2 : (3000 : Int) < (lb : Int) := by omega
      go_enter Try.func7, Try.ntmps7
      go_wp2_with fail
      refine (head_any _).mono ?_
      rintro e w1 ⟨rfl, hb1⟩
      go_wp2
      go_ret
      exact ⟨by simp, hb1⟩
  · have g1 : (3000 : Int) < (la : Int) := by omega
    go_enter Try.func7, Try.ntmps7
    go_wp2_with fail
    refine (head_any _).mono ?_
    rintro e w1 ⟨rfl, hb1⟩
    go_wp2
    go_ret
    exact ⟨by simp, hb1⟩
end Go.Proofs.Yteeljbnfemhggaa

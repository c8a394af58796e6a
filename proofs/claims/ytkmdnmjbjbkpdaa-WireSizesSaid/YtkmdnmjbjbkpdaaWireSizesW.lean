/- WireSizes: the walk. -/
import Derived.Test.YtkmdnmjbjbkpdaaWrK
namespace Go.Proofs.Ytkmdnmjbjbkpdaa
open Go.RowKit
open Wir

theorem dg_len (c : Nat) : (dg c).length = 1 + (if c / 128 = 0 then 0 else (dg (c / 128)).length) := by
  by_cases h : c < 128
  · rw [dg_lo h, if_pos (by omega)]; rfl
  · rw [dg_hi h, if_neg (by omega)]; simp; omega
theorem dg_small {n : Nat} (h : n ≤ 3000) : (dg (cnt (n : Int))).length = if 64 ≤ n then 2 else 1 := by
  have hc : cnt (n : Int) = 2 * n := by unfold cnt; rw [if_pos (by omega)]; omega
  rw [hc]
  by_cases h6 : 64 ≤ n
  · rw [dg_hi (by omega), dg_lo (by omega), if_pos h6]; rfl
  · rw [dg_lo (by omega), if_neg h6]; rfl
set_option linter.unusedSimpArgs false in
set_option maxRecDepth 100000 in
set_option maxHeartbeats 3200000 in
theorem wireSizes_walk (n : Int) (h1 : -9223372036854775808 ≤ n) (h2 : n ≤ 9223372036854775807) (a : Option Addr) (len cap : Nat) (t : List Nat) (w : World) (hs : Sl w w.heap.size a len cap t) :
    Calls Try.prog 8 #[.int .i64 n, .slice a len cap] w fun e w' => e = .returned (.bool true) ∧ Below w.heap.size w w' := by
  have HS := Lib.hid hs
  have hl := hs.length
  clear hs
  go_enter Try.func8, Try.ntmps8
  go_wp2_with fail
  refine (head_any _).mono ?_
  rintro e w1 ⟨rfl, hb1⟩
  have B1 := Lib.hid hb1
  clear hb1
  by_cases h3 : 3000 < len
  · have h3' : (3000 : Int) < (len : Int) := by omega
    go_wp2
    go_ret
    exact ⟨rfl, B1.out⟩
  have h3' : (len : Int) ≤ 3000 := by omega
  have hs1 := Lib.hid ((HS.out.below B1.out (Nat.le_refl _)).more B1.out.size)
  have W0 := Lib.hid (WK.new 41 w1)
  go_wp2_with fail
  refine (W0.out.num n h1 h2 (by decide)).mono ?_
  rintro e w2 ⟨rfl, k2⟩
  rw [List.nil_append] at k2
  have W2 := Lib.hid k2
  clear k2 W0
  have hA10 := dg_le (cnt_lt h1 h2)
  have HA := Lib.hid (dg_len (cnt n))
  have hm : Hid (∀ m : Int, m = (if n < 0 then -(n + 1) else n) → 0 ≤ m ∧ m ≤ 9223372036854775807 ∧ ((cnt n / 128 : Nat) : Int) = m / 64) := by
    intro m hm
    unfold cnt
    split at hm <;> split <;> omega
  generalize hd : dg (cnt n) = d at *
  go_wp2_with fail
  refine (W2.out.bytes (by omega)).mono ?_
  rintro e w3 ⟨a3, c3, rfl, _, k3, _, _⟩
  have W3 := Lib.hid k3
  clear k3 W2
  go_wp2_with fail
  refine (W3.out.text a len cap t hs1.out (by omega) (by omega)).mono ?_
  rintro e w4 ⟨rfl, k4⟩
  have W4 := Lib.hid k4
  clear k4 W3
  have HD0 := dg_small (n := len) (by omega)
  have HD := Lib.hid HD0
  have hL : ((d ++ (dg (cnt (len : Int)) ++ t) : List Nat)).length = d.length + ((dg (cnt (len : Int))).length + len) := by simp [hl]
  have hL2 : (d ++ (dg (cnt (len : Int)) ++ t) : List Nat).length ≤ 2000000000 := by rw [hL, HD0]; split <;> omega
  clear HD0
  have CB := Lib.hid (W4.out.bytes hL2)
  rw [hL] at CB
  generalize (dg (cnt (len : Int))).length = D at *
  generalize hdl : d.length = A at *
  obtain ⟨S, hS⟩ : ∃ S, S = A + (D + len) := ⟨_, rfl⟩
  obtain ⟨T, hT⟩ : ∃ T, T = D + len := ⟨_, rfl⟩
  rw [← hS] at CB
  have hsub : IntKind.i64.wrap ((S : Int) - (A : Int)) = (T : Int) := by have := HD.out; rw [IntKind.wrap_i64]; split at this <;> omega
  have HT := Lib.hid hT
  clear hL hL2 hS hT
  go_wp2_with fail
  refine CB.out.mono ?_
  rintro e w5 ⟨a5, c5, rfl, _, ⟨_, _, _, k5⟩, _, _⟩
  have B5 := Lib.hid (B1.out.trans (k5.mono B1.out.size))
  clear k5 W4 CB hs1
  obtain ⟨m, hmm⟩ : ∃ m, m = (if n < 0 then -(n + 1) else n) := ⟨_, rfl⟩
  obtain ⟨m1, m2, m3⟩ := hm.out m hmm
  generalize hq : cnt n / 128 = Q at *
  have HQ : Hid (A = 1 + if Q = 0 then 0 else (dg Q).length) := HA.out
  have hA : A ≤ 10 := hA10
  have m3' : m / 64 = (Q : Int) := m3.symm
  have hQs : Q ≤ 9223372036854775807 := by omega
  clear hq HA hA10 hm m3
  have M2 := Lib.hid m2
  have m2' := M2.out
  by_cases hn : n < 0
  · rw [if_pos hn] at hmm
    have e1 : IntKind.i64.wrap (n + 1) = n + 1 := by rw [IntKind.wrap_i64]; omega
    have e2 : IntKind.i64.wrap (-(n + 1)) = m := by rw [IntKind.wrap_i64]; have := M2.out; omega
    clear hmm
    go_wp2_with fail
    go_loopw [10, 11] (fun x k wr => ∃ W K : Nat, x = .int .i64 (W : Int) ∧ k = .int .i64 (K : Int) ∧ K ≤ 9223372036854775807 ∧ A = W + (if K = 0 then 0 else (dg K).length) ∧ wr = w5) (fun _ k _ => (intOf k).toNat)
    case atStart => exact ⟨1, Q, rfl, by rw [m3'], hQs, HQ.out, rfl⟩
    case round =>
      obtain ⟨W, K, rfl, rfl, hK, hAW, rfl⟩ := hrel
      by_cases hk0 : K = 0
      · subst hk0
        have hWA : A = W := by simpa using hAW
        subst hWA
        have hA' : (A : Int) ≤ 10 := by omega
        clear hAW
        by_cases h64 : 64 ≤ len
        · have h64' : (64 : Int) ≤ (len : Int) := by omega
          have hTl : T = len + 2 := by have := HT.out; have := HD.out; rw [if_pos h64] at this; omega
          subst hTl
          go_wp2
          go_ret
          exact ⟨rfl, B5.out⟩
        · have h64' : (len : Int) < 64 := by omega
          have hTl : T = len + 1 := by have := HT.out; have := HD.out; rw [if_neg h64] at this; omega
          subst hTl
          go_wp2
          go_ret
          exact ⟨rfl, B5.out⟩
      · have hk' : (0 : Int) < (K : Int) := by omega
        have hW : W ≤ 10 := by rw [hAW] at hA; omega
        have hnext : A = (W + 1) + (if K / 128 = 0 then 0 else (dg (K / 128)).length) := by rw [if_neg hk0, dg_len] at hAW; omega
        have HN := Lib.hid hnext
        clear hAW hnext
        go_wp2
        go_roundw
        case rel => exact ⟨W + 1, K / 128, by go_num, by go_num, by omega, HN.out, by trivial⟩
        case measure => simp [intOf]; omega
  · rw [if_neg hn] at hmm
    subst hmm
    have hn' : 0 ≤ m := by omega
    go_wp2_with fail
    go_loopw [10, 11] (fun x k wr => ∃ W K : Nat, x = .int .i64 (W : Int) ∧ k = .int .i64 (K : Int) ∧ K ≤ 9223372036854775807 ∧ A = W + (if K = 0 then 0 else (dg K).length) ∧ wr = w5) (fun _ k _ => (intOf k).toNat)
    case atStart => exact ⟨1, Q, rfl, by rw [m3'], hQs, HQ.out, rfl⟩
    case round =>
      obtain ⟨W, K, rfl, rfl, hK, hAW, rfl⟩ := hrel
      by_cases hk0 : K = 0
      · subst hk0
        have hWA : A = W := by simpa using hAW
        subst hWA
        have hA' : (A : Int) ≤ 10 := by omega
        clear hAW
        by_cases h64 : 64 ≤ len
        · have h64' : (64 : Int) ≤ (len : Int) := by omega
          have hTl : T = len + 2 := by have := HT.out; have := HD.out; rw [if_pos h64] at this; omega
          subst hTl
          go_wp2
          go_ret
          exact ⟨rfl, B5.out⟩
        · have h64' : (len : Int) < 64 := by omega
          have hTl : T = len + 1 := by have := HT.out; have := HD.out; rw [if_neg h64] at this; omega
          subst hTl
          go_wp2
          go_ret
          exact ⟨rfl, B5.out⟩
      · have hk' : (0 : Int) < (K : Int) := by omega
        have hW : W ≤ 10 := by rw [hAW] at hA; omega
        have hnext : A = (W + 1) + (if K / 128 = 0 then 0 else (dg (K / 128)).length) := by rw [if_neg hk0, dg_len] at hAW; omega
        have HN := Lib.hid hnext
        clear hAW hnext
        go_wp2
        go_roundw
        case rel => exact ⟨W + 1, K / 128, by go_num, by go_num, by omega, HN.out, by trivial⟩
        case measure => simp [intOf]; omega
end Go.Proofs.Ytkmdnmjbjbkpdaa

/- Contracts of the program's wire: number. -/
import Derived.Test.YtnpakjdgcmbcnaaWrB
import Derived.Test.YtnpakjdgcmbcnaaInfU
import Derived.OwnWalk
namespace Go.Proofs.Ytnpakjdgcmbcnaa
open Go.RowKit
open Wir

theorem min_any (x y : Int) (w : World) :
    (Builtin.min_ #[3, 3] 3 #[.int .i64 x, .int .i64 y]).run Try.prog w = .ok (.int .i64 (min x y)) w := by
  have e1 : (if y < x then y else x) = min x y := by omega
  simp only [Builtin.min_, List.foldlM, Builtin.min2, Sem.run_bind, Sem.run_pure, Result.andThen_ok]
  rw [e1]
theorem shl_any (x : Int) (k : Nat) (hk : k ≤ 9) (w : World) : (Op.shift .shl .u64 x .i64 (7 * (k : Int))).run Try.prog w = .ok (.int .u64 (IntKind.u64.wrap (x * 2 ^ (7 * k)))) w := by
  have e : min (7 * (k : Int)).toNat IntKind.u64.bits = 7 * k := by
    show min (7 * (k : Int)).toNat 64 = 7 * k
    omega
  unfold Op.shift
  rw [if_neg (by omega), e]
  rfl
theorem or_next (v d i : Nat) (hv : v < 128 ^ i) (hs : v + 128 ^ i * d < 18446744073709551616) : bits .or .u64 (v : Int) (IntKind.u64.wrap ((d : Int) * 2 ^ (7 * i))) = ((v + 128 ^ i * d : Nat) : Int) := by
  have hp : (128 : Nat) ^ i = 2 ^ (7 * i) := by rw [Nat.pow_mul]
  rw [hp] at hv hs ⊢
  have h1 : v ||| d * 2 ^ (7 * i) = v + 2 ^ (7 * i) * d := by
    have := Nat.two_pow_add_eq_or_of_lt (i := 7 * i) (b := v) hv d
    rw [Nat.or_comm, Nat.mul_comm, ← this, Nat.add_comm]
  have e1 : (d : Int) * 2 ^ (7 * i) = ((d * 2 ^ (7 * i) : Nat) : Int) := by rw [Int.natCast_mul, Int.natCast_pow]; rfl
  have hd : d * 2 ^ (7 * i) < 18446744073709551616 := by rw [Nat.mul_comm]; omega
  have hv64 : v < 18446744073709551616 := by omega
  rw [e1, IntKind.wrap_u64, show ((d * 2 ^ (7 * i) : Nat) : Int) % 18446744073709551616 = ((d * 2 ^ (7 * i) : Nat) : Int) from by omega]
  show IntKind.u64.wrap ((BitVec.ofInt 64 (v : Int) ||| BitVec.ofInt 64 ((d * 2 ^ (7 * i) : Nat) : Int)).toNat : Int) = _
  rw [BitVec.toNat_or, ofInt_u64 _ (by omega), ofInt_u64 _ (by omega), h1, IntKind.wrap_u64]
  omega
theorem sm_take (bs : List Nat) (i : Nat) (h : i < bs.length) : sm (bs.take (i + 1)) = sm (bs.take i) + 128 ^ i * (bs.getD i 0 % 128) := by
  rw [List.take_succ_eq_append_getElem h, sm_append, List.length_take, Nat.min_eq_left (by omega), List.getD_eq_getElem?_getD, List.getElem?_eq_getElem h]
  simp [sm]
theorem sm_mono (bs : List Nat) {i j : Nat} (h : i ≤ j) : sm (bs.take i) ≤ sm (bs.take j) := by
  have : bs.take j = bs.take i ++ (bs.take j).drop i := by
    rw [show bs.take i = (bs.take j).take i from by rw [List.take_take, Nat.min_eq_left h], List.take_append_drop]
  rw [this, sm_append]
  omega

def numT (x : Int × Nat × Nat) : Value := .tuple #[.int .i64 x.1, .int .i64 ((x.2.1 : Nat) : Int), .int .i64 ((x.2.2 : Nat) : Int)]
set_option maxRecDepth 100000 in
set_option maxHeartbeats 1600000 in
theorem number_any (a : Option Addr) (len cap : Nat) (bs : List Nat) (w : World) (hs : Sl w w.heap.size a len cap bs) :
    Calls Try.prog 80 #[.slice a len cap] w fun e w' => e = .returned (numT (num bs)) ∧ w' = w := by
  have hl := hs.length
  have hle := hs.le
  have hmx := hs.max
  unfold maxLen at hmx
  obtain ⟨m, hm⟩ : ∃ m, m = min len 10 := ⟨_, rfl⟩
  have htk : bs.take m = bs.take 10 := by
    rw [hm]
    rcases Nat.le_total len 10 with h | h
    · rw [Nat.min_eq_left h, List.take_of_length_le (by omega), List.take_of_length_le (by omega)]
    · rw [Nat.min_eq_right h]
  have IX := ixf_any a m cap (bs.take m) w (hs.take (by omega))
  rw [htk] at IX
  change Calls _ _ _ _ (fun e w' => e = .returned (.int .i64 (ixI (fst_ bs))) ∧ w' = w) at IX
  have IX := Lib.hid IX
  have m1 := fun (x : World) => min_any (len : Int) 10 x
  have hmi : min (len : Int) 10 = (m : Int) := by omega
  rw [hmi] at m1
  have c1 := run_cut_to (P := Try.prog) 28 5 Try.underlying28 info_u8 a len cap m (by omega)
  rcases hf : fst_ bs with _ | k
  · rw [hf] at IX
    change Hid (Calls _ _ _ _ (fun e w' => e = .returned (.int .i64 (-1)) ∧ w' = w)) at IX
    have HN : Hid (num bs = if len < 10 then (0, 0, 13) else (0, 0, 12)) := by
      show num bs = _
      unfold num; rw [hf, hl]
    clear hf hmi htk hm
    by_cases h10 : len < 10
    · have h10' : (len : Int) < 10 := by omega
      go_enter Try.func80, Try.ntmps80
      go_wp2_with fail
      refine IX.out.mono ?_
      rintro e w1 ⟨rfl, rfl⟩
      go_wp2
      go_ret3
      rw [HN.out, if_pos h10]
      exact ⟨rfl, rfl⟩
    · have h10' : ¬ (len : Int) < 10 := by omega
      go_enter Try.func80, Try.ntmps80
      go_wp2_with fail
      refine IX.out.mono ?_
      rintro e w1 ⟨rfl, rfl⟩
      go_wp2
      go_ret3
      rw [HN.out, if_neg h10]
      exact ⟨rfl, rfl⟩
  · rw [hf] at IX
    change Hid (Calls _ _ _ _ (fun e w' => e = .returned (.int .i64 (k : Int)) ∧ w' = w)) at IX
    obtain ⟨k10, kl, klo, khi⟩ := fst_some hf
    have HN : Hid (num bs = if (k = 9 ∧ 1 < bs.getD k 0) ∨ (0 < k ∧ bs.getD k 0 = 0) then (0, 0, 12) else (unc (sm (bs.take (k + 1))), k + 1, 0)) := by
      show num bs = _
      unfold num; rw [hf]
    have hpos : 0 < len := by omega
    obtain ⟨b, o, rfl, hbl, hc⟩ := hs.at_ hpos
    have ck := hc k (by omega)
    have hB : ¬ ((k = 9 ∧ 1 < bs.getD k 0) ∨ (0 < k ∧ bs.getD k 0 = 0)) → sm (bs.take (k + 1)) < 18446744073709551616 := fun hn => by
      have h1 := sm_take bs k kl
      have h2 := sm_lt (bs.take k)
      rw [List.length_take, Nat.min_eq_left (by omega)] at h2
      by_cases h9 : k = 9
      · subst h9
        have h3 : bs.getD 9 0 ≤ 1 := by omega
        have h4 : (128 : Nat) ^ 9 = 9223372036854775808 := by decide
        rw [h1]
        have : bs.getD 9 0 % 128 ≤ 1 := by omega
        omega
      · have h3 : 128 ^ k ≤ 128 ^ 8 := Nat.pow_le_pow_right (by decide) (by omega)
        have h4 : (128 : Nat) ^ 8 = 72057594037927936 := by decide
        have h5 : 128 ^ k * (bs.getD k 0 % 128) ≤ 128 ^ k * 127 := Nat.mul_le_mul_left _ (by omega)
        omega
    have HB := Lib.hid hB
    have HC := Lib.hid hc
    have HH := Lib.hid hs
    have kl' : k < len := by omega
    clear hf hmi htk hm hB hc khi kl hs
    generalize hx : bs.getD k 0 = x at ck HN HB klo
    have HXX := Lib.hid hx
    clear hx
    by_cases hbad : (k = 9 ∧ 1 < x) ∨ (0 < k ∧ x = 0)
    · have HN2 : Hid (num bs = (0, 0, 12)) := HN.out.trans (if_pos hbad)
      clear HN HB
      rcases hbad with ⟨rfl, h1⟩ | ⟨h0, rfl⟩
      · have h1' : (1 : Int) < (x : Int) := by omega
        go_enter Try.func80, Try.ntmps80
        go_wp2_with fail
        refine IX.out.mono ?_
        rintro e w1 ⟨rfl, rfl⟩
        go_wp2
        go_ret3
        rw [HN2.out]
        exact ⟨rfl, rfl⟩
      · have h0' : (0 : Int) < (k : Int) := by omega
        have hk9 : k = 9 ∨ ¬ (k : Int) = 9 := by omega
        rcases hk9 with rfl | hk9
        all_goals
          go_enter Try.func80, Try.ntmps80
          go_wp2_with fail
          refine IX.out.mono ?_
          rintro e w1 ⟨rfl, rfl⟩
          go_wp2
          go_ret3
          rw [HN2.out]
          exact ⟨rfl, rfl⟩
    · have HN2 : Hid (num bs = (unc (sm (bs.take (k + 1))), k + 1, 0)) := HN.out.trans (if_neg hbad)
      have hsm := HB.out hbad
      clear HN HB
      obtain ⟨K, hK⟩ : ∃ K, K = k + 1 := ⟨_, rfl⟩
      rw [← hK] at HN2 hsm
      have HKl : Hid (K ≤ len ∧ K ≤ 10 ∧ 0 < K) := ⟨by omega, by omega, by omega⟩
      have HT : Hid (∀ i, i < K → sm (bs.take (i + 1)) = sm (bs.take i) + 128 ^ i * (bs.getD i 0 % 128)) := fun i hi => sm_take bs i (by omega)
      have HL : Hid (∀ i, i ≤ K → sm (bs.take i) < 128 ^ i ∧ sm (bs.take i) ≤ sm (bs.take K)) := fun i hi => ⟨by have h2 := sm_lt (bs.take i); rw [List.length_take, Nat.min_eq_left (by omega)] at h2; exact h2, sm_mono bs hi⟩
      have HBy : Hid (∀ i, i < K → bs.getD i 0 < 256) := fun i hi => HH.out.lt (by omega)
      have NO := Lib.hid (numberOf_any (sm (bs.take K)) hsm)
      have c2 := run_cut_to (P := Try.prog) 28 5 Try.underlying28 info_u8 (some ⟨b, o, none⟩) len cap K (by omega)
      have hsm := Lib.hid hsm
      have hk9 : k = 9 ∧ (x : Int) ≤ 1 ∨ ¬ (k : Int) = 9 := by omega
      have hk0 : k = 0 ∨ (0 : Int) < (k : Int) ∧ ¬ (x : Int) = 0 := by omega
      have START : Calls Try.prog 80 #[.slice (some ⟨b, o, none⟩) len cap] w fun e w' => e = .returned (numT (unc (sm (bs.take K)), K, 0)) ∧ w' = w := by
        rcases hk9 with ⟨rfl, h9'⟩ | hk9
        · rcases hk0 with h0 | ⟨h0, h0'⟩
          · omega
          rw [show ((K : Nat) : Int) = 10 from by omega] at c2
          have HK := Lib.hid hK
          obtain rfl : x = 1 := by omega
          clear hbad h0 hK HH h9' h0'
          go_enter Try.func80, Try.ntmps80
          go_wp2_with fail
          refine IX.out.mono ?_
          rintro e w1 ⟨rfl, rfl⟩
          go_wp2_with fail
          go_loopw [6, 51] (fun v i wr => ∃ n : Nat, n ≤ K ∧ i = .int .i64 (n : Int) ∧ v = .int .u64 ((sm (bs.take n) : Nat) : Int) ∧ wr = w1) (fun _ i _ => K - (intOf i).toNat)
          case atStart => exact ⟨0, by omega, rfl, rfl, rfl⟩
          case round =>
            obtain ⟨n, hn, rfl, rfl, rfl⟩ := hrel
            by_cases hlt : n < K
            · have cn := HC.out n (by have := HKl.out; omega)
              have t1 := HT.out n hlt
              have t2 := HL.out n (by omega)
              have t3 := HL.out (n + 1) (by omega)
              have t4 := HBy.out n hlt
              rw [t1] at t3
              have OR := or_next (sm (bs.take n)) (bs.getD n 0 % 128) n t2.1 (by have := hsm.out; omega)
              rw [← t1] at OR
              have Ht := Lib.hid t1
              clear t1 t2 t3
              generalize sm (bs.take n) = v at OR Ht
              generalize bs.getD n 0 = y at cn OR t4 Ht
              have hy : ((y % 128 : Nat) : Int) = (y : Int) % 128 := by omega
              rw [hy] at OR
              have w7 : IntKind.i64.wrap (7 * (n : Int)) = 7 * (n : Int) := by have := HKl.out; rw [IntKind.wrap_i64]; omega
              have hn9 : n ≤ 9 := by have := HKl.out; omega
              have SH := fun x => shl_any ((y : Int) % 128) n (by have := HKl.out; omega) x
              go_wp2
              go_roundw
              case rel => exact ⟨n + 1, by omega, by go_num, by first | rfl | rw [OR], by trivial⟩
              case measure => simp [intOf]; omega
            · have hnK : n = K := by omega
              subst hnK
              go_wp2_with fail
              refine (NO.out _).mono ?_
              rintro e w2 ⟨rfl, rfl⟩
              go_wp2
              go_ret3
              exact ⟨ret_tup3 rfl (by have := HK.out; go_num) rfl, rfl⟩
        · rcases hk0 with rfl | ⟨h0, h0'⟩
          · rw [show ((K : Nat) : Int) = 1 from by omega] at c2
            have HK := Lib.hid hK
            clear hbad hK HH
            go_enter Try.func80, Try.ntmps80
            go_wp2_with fail
            refine IX.out.mono ?_
            rintro e w1 ⟨rfl, rfl⟩
            go_wp2_with fail
            go_loopw [6, 51] (fun v i wr => ∃ n : Nat, n ≤ K ∧ i = .int .i64 (n : Int) ∧ v = .int .u64 ((sm (bs.take n) : Nat) : Int) ∧ wr = w1) (fun _ i _ => K - (intOf i).toNat)
            case atStart => exact ⟨0, by omega, rfl, rfl, rfl⟩
            case round =>
              obtain ⟨n, hn, rfl, rfl, rfl⟩ := hrel
              by_cases hlt : n < K
              · have cn := HC.out n (by have := HKl.out; omega)
                have t1 := HT.out n hlt
                have t2 := HL.out n (by omega)
                have t3 := HL.out (n + 1) (by omega)
                have t4 := HBy.out n hlt
                rw [t1] at t3
                have OR := or_next (sm (bs.take n)) (bs.getD n 0 % 128) n t2.1 (by have := hsm.out; omega)
                rw [← t1] at OR
                have Ht := Lib.hid t1
                clear t1 t2 t3
                generalize sm (bs.take n) = v at OR Ht
                generalize bs.getD n 0 = y at cn OR t4 Ht
                have hy : ((y % 128 : Nat) : Int) = (y : Int) % 128 := by omega
                rw [hy] at OR
                have w7 : IntKind.i64.wrap (7 * (n : Int)) = 7 * (n : Int) := by have := HKl.out; rw [IntKind.wrap_i64]; omega
                have hn9 : n ≤ 9 := by have := HKl.out; omega
                have SH := fun x => shl_any ((y : Int) % 128) n (by have := HKl.out; omega) x
                go_wp2
                go_roundw
                case rel => exact ⟨n + 1, by omega, by go_num, by first | rfl | rw [OR], by trivial⟩
                case measure => simp [intOf]; omega
              · have hnK : n = K := by omega
                subst hnK
                go_wp2_with fail
                refine (NO.out _).mono ?_
                rintro e w2 ⟨rfl, rfl⟩
                go_wp2
                go_ret3
                exact ⟨ret_tup3 rfl (by have := HK.out; go_num) rfl, rfl⟩
          · rw [show ((K : Nat) : Int) = (k : Int) + 1 from by omega] at c2
            have HK := Lib.hid hK
            clear hbad hK HH
            go_enter Try.func80, Try.ntmps80
            go_wp2_with fail
            refine IX.out.mono ?_
            rintro e w1 ⟨rfl, rfl⟩
            go_wp2_with fail
            go_loopw [6, 51] (fun v i wr => ∃ n : Nat, n ≤ K ∧ i = .int .i64 (n : Int) ∧ v = .int .u64 ((sm (bs.take n) : Nat) : Int) ∧ wr = w1) (fun _ i _ => K - (intOf i).toNat)
            case atStart => exact ⟨0, by omega, rfl, rfl, rfl⟩
            case round =>
              obtain ⟨n, hn, rfl, rfl, rfl⟩ := hrel
              by_cases hlt : n < K
              · have cn := HC.out n (by have := HKl.out; omega)
                have t1 := HT.out n hlt
                have t2 := HL.out n (by omega)
                have t3 := HL.out (n + 1) (by omega)
                have t4 := HBy.out n hlt
                rw [t1] at t3
                have OR := or_next (sm (bs.take n)) (bs.getD n 0 % 128) n t2.1 (by have := hsm.out; omega)
                rw [← t1] at OR
                have Ht := Lib.hid t1
                clear t1 t2 t3
                generalize sm (bs.take n) = v at OR Ht
                generalize bs.getD n 0 = y at cn OR t4 Ht
                have hy : ((y % 128 : Nat) : Int) = (y : Int) % 128 := by omega
                rw [hy] at OR
                have w7 : IntKind.i64.wrap (7 * (n : Int)) = 7 * (n : Int) := by have := HKl.out; rw [IntKind.wrap_i64]; omega
                have hn9 : n ≤ 9 := by have := HKl.out; omega
                have SH := fun x => shl_any ((y : Int) % 128) n (by have := HKl.out; omega) x
                go_wp2
                go_roundw
                case rel => exact ⟨n + 1, by omega, by go_num, by first | rfl | rw [OR], by trivial⟩
                case measure => simp [intOf]; omega
              · have hnK : n = K := by omega
                subst hnK
                go_wp2_with fail
                refine (NO.out _).mono ?_
                rintro e w2 ⟨rfl, rfl⟩
                go_wp2
                go_ret3
                exact ⟨ret_tup3 rfl (by have := HK.out; go_num) rfl, rfl⟩
      exact START.mono fun e w' h => by rw [HN2.out]; exact h
end Go.Proofs.Ytnpakjdgcmbcnaa

/- The reference's numbers: Read, Number (as in FrR, for a seat without frames). -/
import Derived.Test.YtohiheohndmccaaGreatFrm
import Derived.Test.YtohiheohndmccaaGreatSumR
import Derived.Test.YtohiheohndmccaaGreatSumF
import Derived.Test.YtohiheohndmccaaGreatLine
import Derived.Deep.AppendLies
namespace Go.Proofs.YtohiheohndmccaaGreat
open Go.RowKit
open Crc Frm

set_option maxRecDepth 100000 in
set_option maxHeartbeats 400000 in
theorem rread_any (a : Option Addr) (len cap : Nat) (bs : List Nat) (w : World) (hs : Sl w w.heap.size a len cap bs) (h4 : len ≤ 4) :
    Calls Tryz.prog 74 #[.slice a len cap] w fun e w' => e = .returned (.int .u64 ((val bs : Nat) : Int)) ∧ w = w' := by
  have hbl := hs.length
  go_enter Tryz.func74, Tryz.ntmps74
  go_wp2_with fail
  go_loop [3, 4] (fun v i => ∃ k : Nat, k ≤ len ∧ i = .int .i64 (k : Int) ∧ v = .int .u64 ((val (bs.take k) : Nat) : Int)) (fun _ i => len - (intOf i).toNat)
  case atStart => exact ⟨0, by omega, rfl, rfl⟩
  case round =>
    obtain ⟨k, hk, rfl, rfl⟩ := hrel
    by_cases hlt : k < len
    · obtain ⟨b, o, rfl, hb, hc⟩ := hs.at_ (by omega)
      have c1 := hc k hlt
      have hcb := hs.lt hlt
      have hvl : val (bs.take k) < 16777216 := by
        have h1 := val_lt (bs.take k) (fun c hc => hs.byte c (List.mem_of_mem_take hc))
        have h2 : (bs.take k).length ≤ 3 := by rw [List.length_take]; omega
        have h3 := Nat.pow_le_pow_right (n := 256) (by decide) h2
        omega
      have Hst : Hid (val (bs.take (k + 1)) = val (bs.take k) * 256 + bs.getD k 0) := by
        show _ = _
        rw [List.take_succ_eq_append_getElem (by omega), val_snoc, List.getD_eq_getElem?_getD, List.getElem?_eq_getElem (by omega)]
        rfl
      generalize val (bs.take k) = v at hvl Hst
      generalize bs.getD k 0 = c at c1 hcb Hst
      clear hc
      go_wp2
      exact ⟨⟨k + 1, by omega, by go_num, by rw [Hst.out]; go_num⟩, by simp [intOf]; omega⟩
    · have hk' : k = len := by omega
      subst hk'
      rw [List.take_of_length_le (by omega)]
      go_wp2
      go_ret
      exact ⟨rfl, rfl⟩

theorem number_step (j k n : Nat) (hj : j < k) : (List.replicate (k - j) 0 ++ be j n).set (k - j - 1) (n / 256 ^ j % 256) = List.replicate (k - (j + 1)) 0 ++ be (j + 1) n := by
  obtain ⟨m, hm⟩ : ∃ m, k - j = m + 1 := ⟨k - j - 1, by omega⟩
  rw [hm, show k - (j + 1) = m from by omega, show m + 1 - 1 = m from by omega, List.replicate_succ', List.append_assoc, List.set_append_right _ _ (by simp)]
  simp [be]

set_option maxRecDepth 100000 in
set_option maxHeartbeats 800000 in
theorem number_any (n k : Nat) (hn : n < 4294967296) (hk4 : k ≤ 4) (h1 : 1 ≤ k) (w : World) :
    Calls Tryz.prog 71 #[.int .u64 (n : Int), .int .i64 (k : Int)] w fun e w' => ∃ g, e = .returned (.slice (some ⟨g, 0, none⟩) k k) ∧ OwnB w' w.heap.size 5 (.slice (some ⟨g, 0, none⟩) k k) (be k n) ∧ Below w.heap.size w w' := by
  obtain ⟨i8, hi8, hz0, hz1, hz2⟩ := info_parts info_u8
  go_enter Tryz.func71, Tryz.ntmps71
  go_wp2_with (at_make; refine wpList_make_full _ rfl (.tmp 7) (.tmp 7) 32 rfl w.heap.size 5 i8 (.int .u8 0) 1 Tryz.underlying32 hi8 hz0 hz1 .i64 .i64 _ _ k rfl rfl rfl rfl (by rw [hz2]; omega) (by unfold maxLen; omega) (Nat.le_refl _) ?_; intro w2 hown hg)
  have hown1 := OwnB.made hown
  have hB2 : Below w.heap.size w w2 := (Below.refl _ _).grown hg (Nat.le_refl _) (fun k hk => by cases hk)
  clear hown hg
  go_loopw [0, 6] (fun x i wx => ∃ j : Nat, j ≤ k ∧ x = .int .u64 ((n / 256 ^ j : Nat) : Int) ∧ i = .int .i64 ((k : Int) - 1 - (j : Int)) ∧ OwnB wx w.heap.size 5 (.slice (some ⟨w.heap.size, 0, none⟩) k k) (List.replicate (k - j) 0 ++ be j n) ∧ Below w.heap.size w wx)
    (fun _ i _ => (intOf i + 1).toNat)
  case atStart => exact ⟨0, by omega, by simp, by simp, by simpa [be] using hown1, hB2⟩
  case round =>
    obtain ⟨j, hj, rfl, rfl, ho, hB⟩ := hrel
    by_cases hlt : j < k
    · have hkc := ho.cell (k := k - 1 - j) (by simp [be_len]; omega)
      have hset := ho.set_ (k - j - 1) (n / 256 ^ j % 256)
      rw [number_step j k n hlt] at hset
      have hle : n / 256 ^ j < 4294967296 := Nat.lt_of_le_of_lt (Nat.div_le_self _ _) hn
      have hdv : Hid (n / 256 ^ (j + 1) = n / 256 ^ j / 256) := by show _ = _; rw [Nat.pow_succ, Nat.div_div_eq_div_mul]
      have H := Lib.hid (And.intro hset hB)
      clear hset ho hB hown1 hB2
      generalize n / 256 ^ j = m at hle hdv H
      obtain ⟨q, hq⟩ : ∃ q, q = k - 1 - j := ⟨_, rfl⟩
      have hqi : (k : Int) - 1 - (j : Int) = (q : Int) := by omega
      rw [hqi]
      rw [← hq] at hkc
      rw [show k - j - 1 = q from by omega] at H
      have hq1 : (q : Int) < (k : Int) := by omega
      have HQ := Lib.hid hq
      clear hqi hq
      go_wp2
      have hq := HQ.out
      have hm := H.out.1
      refine ⟨⟨j + 1, by omega, by rw [hdv.out]; go_num, by go_num, ?_, H.out.2.setCell (p := ⟨w.heap.size, q, none⟩) (Nat.le_refl _) _⟩, by first | (simp [intOf]; done) | (simp [intOf]; omega)⟩
      first | exact hm | (have e : Value.int .u8 ((m : Int) % 256) = bv (m % 256) := rfl; rw [e]; exact hm)
    · have hjk : j = k := by omega
      subst hjk
      rw [show (j : Int) - 1 - (j : Int) = -1 from by omega]
      go_wp2
      go_ret
      exact ⟨_, rfl, by simpa using ho, hB⟩

end Go.Proofs.YtohiheohndmccaaGreat

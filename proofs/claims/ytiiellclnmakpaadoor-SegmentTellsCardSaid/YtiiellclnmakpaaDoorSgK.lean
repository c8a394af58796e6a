/- The reference's segment: Name, First, Head. -/
import Derived.Test.YtiiellclnmakpaaDoorSgM
import Derived.Test.YtiiellclnmakpaaDoorSgR
import Derived.Test.YtiiellclnmakpaaDoorFrR
namespace Go.Proofs.YtiiellclnmakpaaDoor
open Go.RowKit
open Crc Frm
open Sgn

theorem head_at : ∀ (s : ByteArray) (p0 : 0 < s.size), s.data.toList.headD 0 = s[0]
  | ⟨⟨[]⟩⟩, p0 => absurd p0 (by decide)
  | ⟨⟨_ :: _⟩⟩, _ => rfl
theorem drop_step (s : ByteArray) (k : Nat) (h : k + 1 < s.size) : (s.data.toList.drop 1).take (k + 1) = (s.data.toList.drop 1).take k ++ [s[k + 1]] := by
  rw [List.take_succ_eq_append_getElem (by simp; omega)]
  congr 2
  rw [List.getElem_drop]
  show _ = s.data.toList[k + 1]'(by simpa using h)
  congr 1
  omega
theorem digs_snoc {l : List UInt8} {c : UInt8} (h : digs l) (hc : 48 ≤ c.toNat ∧ c.toNat ≤ 57) : digs (l ++ [c]) := by
  intro x hx
  rcases List.mem_append.1 hx with hx | hx
  · exact h x hx
  · have : x = c := by simpa using hx
    rw [this]; exact hc

set_option maxRecDepth 100000 in
set_option maxHeartbeats 800000 in
theorem rfirst_any (s : ByteArray) (hs : s.size ≤ 140737488355328) (w : World) : Calls Tryd.prog 6 #[.string s] w fun e w' =>
    e = .returned (.tuple #[.int .i64 (rfst s.data.toList).1, .bool (rfst s.data.toList).2]) ∧ w = w' := by
  have hlen : s.data.toList.length = s.size := by simp
  by_cases h11 : s.size = 11
  · have p0 : 0 < s.size := by omega
    have hh := head_at s p0
    by_cases hc : s[0].toNat = 115
    · have hb0 : ((s[0].toNat : Int) != 115) = false := by rw [hc]; rfl
      have Hh : Hid (s.data.toList.headD 0 = 115) := by show _ = _; rw [hh]; exact UInt8.toNat_inj.1 hc
      have Hl : Hid (s.data.toList.length = 11) := hlen.trans h11
      have h11b : ((s.size : Int) != 11) = false := by rw [h11]; rfl
      have H11 := Lib.hid h11
      clear hh hc hlen h11
      go_enter Tryd.func6, Tryd.ntmps6
      go_wp2_with fail
      go_loop [4, 5] (fun v i => ∃ k : Nat, k ≤ 10 ∧ i = .int .i64 ((k : Int) + 1) ∧ v = .int .i64 ((val10 ((s.data.toList.drop 1).take k) : Nat) : Int) ∧ Hid (digs ((s.data.toList.drop 1).take k))) (fun _ i => 11 - (intOf i).toNat)
      case atStart => exact ⟨0, by omega, rfl, rfl, by intro c hc; cases hc⟩
      case round =>
        obtain ⟨k, hk, rfl, rfl, hd⟩ := hrel
        have hvl : val10 ((s.data.toList.drop 1).take k) < 10000000000 := by
          have h1 := val_lt10 k ((s.data.toList.drop 1).take k) (by have := Hl.out; simp; simp at this; omega) hd.out
          have h2 := Nat.pow_le_pow_right (n := 10) (by decide) hk
          omega
        by_cases hlt : k < 10
        · have hix : k + 1 < s.size := by have := H11.out; omega
          have hst := drop_step s k hix
          by_cases hg : 48 ≤ s[k + 1].toNat ∧ s[k + 1].toNat ≤ 57
          · have Hn : Hid (val10 ((s.data.toList.drop 1).take (k + 1)) = val10 ((s.data.toList.drop 1).take k) * 10 + (s[k + 1].toNat - 48)) := by show _ = _; rw [hst, Sgn.val_snoc]
            have Hd : Hid (digs ((s.data.toList.drop 1).take (k + 1))) := by show digs _; rw [hst]; exact digs_snoc hd.out hg
            have g0 := hg.1
            have g1 := hg.2
            clear hst hg hd
            generalize val10 ((s.data.toList.drop 1).take k) = v at hvl Hn
            go_wp2
            go_round
            case rel => exact ⟨k + 1, by omega, by go_num, by rw [Hn.out]; go_num, Hd⟩
            case measure => simp [intOf]; omega
          · have Hr := Lib.hid (rfst_bad (l := s.data.toList) s[k + 1] (by have : s[k + 1] ∈ (s.data.toList.drop 1).take (k + 1) := (by rw [hst]; simp); exact List.mem_of_mem_take this) hg)
            clear hst hd
            rcases Nat.lt_or_ge s[k + 1].toNat 48 with g0 | g0
            · clear hg
              go_wp2
              go_ret2
              exact ⟨by rw [Hr.out]; rfl, rfl⟩
            · have g1 : 57 < s[k + 1].toNat := by omega
              clear hg
              go_wp2
              go_ret2
              exact ⟨by rw [Hr.out]; rfl, rfl⟩
        · have hk' : k = 10 := by omega
          subst hk'
          have he : (s.data.toList.drop 1).take 10 = s.data.toList.drop 1 := List.take_of_length_le (by have := Hl.out; simp; simp at this; omega)
          rw [he] at hd hvl ⊢
          have HV : Hid (val10 (s.data.toList.drop 1) = val10 (s.data.toList.drop 1)) := rfl
          generalize hv : val10 (s.data.toList.drop 1) = v at hvl ⊢
          clear he HV
          have hv := Lib.hid hv
          by_cases hb : v ≤ 1073741824
          · have Hr := Lib.hid (rfst_ok Hl.out Hh.out hd.out (by rw [hv.out]; exact hb))
            go_wp2
            go_ret2
            exact ⟨by rw [Hr.out, hv.out]; rfl, rfl⟩
          · have Hr := Lib.hid (rfst_big (l := s.data.toList) (by rw [hv.out]; omega))
            go_wp2
            go_ret2
            exact ⟨by rw [Hr.out]; rfl, rfl⟩
    · have hb0 : ((s[0].toNat : Int) != 115) = true := by rw [bne_iff_ne]; omega
      have Hr := Lib.hid (rfst_head (l := s.data.toList) (by rw [hh]; intro e; rw [e] at hc; exact hc rfl))
      have h11b : ((s.size : Int) != 11) = false := by rw [h11]; rfl
      clear hh hc hlen h11
      go_enter Tryd.func6, Tryd.ntmps6
      go_wp2_with fail
      go_ret2
      exact ⟨by rw [Hr.out]; rfl, rfl⟩
  · have Hr := Lib.hid (rfst_short (l := s.data.toList) (by omega))
    have h11b : ((s.size : Int) != 11) = true := by rw [bne_iff_ne]; omega
    clear hlen h11
    go_enter Tryd.func6, Tryd.ntmps6
    go_wp2_with fail
    go_ret2
    exact ⟨by rw [Hr.out]; rfl, rfl⟩

theorem rname_no (n : Int) (h : ¬ (0 ≤ n ∧ n ≤ 1073741824)) (w : World) : Calls Tryd.prog 10 #[.int .i64 n] w fun e w' => e = .returned (.string ⟨(nm n).toArray⟩) ∧ Below w.heap.size w w' := by
  rw [nm_no h]
  rcases Int.lt_or_le n 0 with h0 | h0
  · have d0 : decide (n < 0) = true := by simpa using h0
    clear h
    go_enter Tryd.func10, Tryd.ntmps10
    go_wp2_with fail
    go_ret
    exact ⟨rfl, Below.refl _ _⟩
  · have d0 : decide (n < 0) = false := by simp; omega
    have d1 : decide (1073741824 < n) = true := by simp; omega
    clear h
    go_enter Tryd.func10, Tryd.ntmps10
    go_wp2_with fail
    go_ret
    exact ⟨rfl, Below.refl _ _⟩

set_option maxRecDepth 100000 in
set_option maxHeartbeats 800000 in
theorem rname_yes (u : Nat) (h : u ≤ 1073741824) (w : World) : Calls Tryd.prog 10 #[.int .i64 (u : Int)] w fun e w' => e = .returned (.string ⟨(nm (u : Int)).toArray⟩) ∧ Below w.heap.size w w' := by
  rw [nm_pad h]
  have d0 : decide ((u : Int) < 0) = false := by simp
  have d1 : decide ((1073741824 : Int) < (u : Int)) = false := by simp; omega
  go_enter Tryd.func10, Tryd.ntmps10
  go_wp2_with fail
  go_loopw [0, 3, 4] (fun n z i wx => ∃ k : Nat, k ≤ 10 ∧ i = .int .i64 (k : Int) ∧ n = .int .i64 ((u / 10 ^ k : Nat) : Int) ∧ z = .string ⟨(pad k u).toArray⟩ ∧ Below w.heap.size w wx) (fun _ _ i _ => 10 - (intOf i).toNat)
  case atStart => exact ⟨0, by omega, rfl, by simp, rfl, Below.refl _ _⟩
  case round =>
    obtain ⟨k, hk, rfl, rfl, rfl, hB⟩ := hrel
    have hpl := pad_len k u
    by_cases hlt : k < 10
    · have Hp : Hid (pad (k + 1) u = UInt8.ofNat (48 + u / 10 ^ k % 10) :: pad k u) := pad_cons k u
      have Hd : Hid (u / 10 ^ (k + 1) = u / 10 ^ k / 10) := by show _ = _; rw [Nat.pow_succ, Nat.div_div_eq_div_mul]
      have hle : u / 10 ^ k ≤ 1073741824 := Nat.le_trans (Nat.div_le_self _ _) h
      generalize u / 10 ^ k = m at Hp Hd hle ⊢
      generalize pad k u = p at Hp hpl ⊢
      have sl : Sl (wr.alloc (.cells #[.int .u8 (48 + (m : Int) % 10)] 5)) _ (some ⟨wr.heap.size, 0, none⟩) 1 1 [48 + m % 10] := Sl.new (bs := [48 + m % 10]) (heap_alloc_new wr _) (by rfl) (by intro c hc; have : c = 48 + m % 10 := (by simpa using hc); omega) 1 rfl (by show 1 ≤ maxLen; decide)
      have cv := run_str (P := Tryd.prog) sl 22 5 9 Tryd.underlying22 Tryd.underlying5 Tryd.underlying9
      clear sl
      obtain ⟨c, hc⟩ : ∃ c, c = UInt8.ofNat (48 + m % 10) := ⟨_, rfl⟩
      have hz : (strOf [48 + m % 10]) = ⟨#[c]⟩ := by rw [hc]; rfl
      rw [hz] at cv
      rw [← hc] at Hp
      clear hz hc
      go_wp2
      go_round
      case rel => exact ⟨k + 1, by omega, by go_num, by rw [Hd.out]; go_num, by rw [Hp.out]; exact congrArg Value.string (ByteArray.ext (by simp)), hB.alloc hB.size _⟩
      case measure => simp [intOf]; omega
    · have hk' : k = 10 := by omega
      subst hk'
      go_wp2
      go_ret
      exact ⟨ret_str (by apply ByteArray.ext; simp), hB⟩
theorem rname_any (n : Int) (w : World) : Calls Tryd.prog 10 #[.int .i64 n] w fun e w' => e = .returned (.string ⟨(nm n).toArray⟩) ∧ Below w.heap.size w w' := by
  by_cases h : 0 ≤ n ∧ n ≤ 1073741824
  · obtain ⟨u, rfl⟩ := Int.eq_ofNat_of_zero_le h.1
    exact rname_yes u (by omega) w
  · exact rname_no n h w

theorem own_sl {w : World} {base g k c : Nat} {e : TypeId} {bs : List Nat} (h : OwnB w base e (.slice (some ⟨g, 0, none⟩) k c) bs) (hb : ∀ x ∈ bs, x < 256) : Sl w w.heap.size (some ⟨g, 0, none⟩) k c bs := by
  obtain ⟨a, cap, hv, hs⟩ := h.sl hb
  cases hv
  exact hs
theorem rhead_no (n : Int) (h : ¬ (0 ≤ n ∧ n ≤ 1073741824)) (w : World) : Calls Tryd.prog 12 #[.int .i64 n] w fun e w' => e = .returned (.slice none 0 0) ∧ w = w' := by
  rcases Int.lt_or_le n 0 with h0 | h0
  · have d0 : decide (n < 0) = true := by simpa using h0
    clear h
    go_enter Tryd.func12, Tryd.ntmps12
    go_wp2_with fail
    go_ret
    exact ⟨rfl, rfl⟩
  · have d0 : decide (n < 0) = false := by simp; omega
    have d1 : decide (1073741824 < n) = true := by simp; omega
    clear h
    go_enter Tryd.func12, Tryd.ntmps12
    go_wp2_with fail
    go_ret
    exact ⟨rfl, rfl⟩

set_option maxRecDepth 100000 in
set_option maxHeartbeats 1600000 in
theorem rhead_yes (n : Nat) (hn : n ≤ 1073741824) (w : World) :
    Calls Tryd.prog 12 #[.int .i64 (n : Int)] w fun e w' => ∃ v, e = .returned v ∧ OwnB w' w.heap.size 5 v (head n) ∧ Below w.heap.size w w' := by
  have d0 : decide ((n : Int) < 0) = false := by simp
  have d1 : decide ((1073741824 : Int) < (n : Int)) = false := by simp; omega
  have hwn : IntKind.u64.wrap (n : Int) = (n : Int) := by rw [IntKind.wrap_u64]; omega
  have kc := fun (w : World) (C : Array Value) (n c : Nat) => Lib.run_convert_bytes_const (P := Tryd.prog) w 22 5 C n c Tryd.underlying22 Tryd.underlying5
  obtain ⟨wA, hwA⟩ : ∃ wA, wA = w.alloc (.cells #[.int .u8 71, .int .u8 79, .int .u8 86, .int .u8 49] 5 (4, 5)) := ⟨_, rfl⟩
  have sA : Sl wA wA.heap.size (some ⟨w.heap.size, 0, none⟩) 4 4 magic := by rw [hwA]; exact Sl.new (bs := magic) (heap_alloc_new w _) (by rfl) (by decide) 4 rfl (by decide)
  have bA : Below w.heap.size w wA := by rw [hwA]; exact (Below.refl _ _).alloc (Nat.le_refl _) _
  have NU := Lib.hid (number_any n 4 (by omega) (by decide) (by decide) wA)
  have HA := Lib.hid (And.intro sA bA)
  have HwA := Lib.hid hwA.symm
  clear sA bA hwA
  go_enter Tryd.func12, Tryd.ntmps12
  go_wp2_with (first
    | (go_at_call 30; rw [HwA.out]; refine NU.out.mono ?_; rintro e w2 ⟨g, rfl, ho2, hb2⟩; have H2 := Lib.hid (And.intro ho2 hb2); have s4 := Lib.hid (HA.out.1.below hb2 (Nat.le_refl _)); clear ho2 hb2)
    | (at_builtin; refine wpList_append_full rfl (.tmp 11) (.tmp 14) _ rfl _ Tryd.underlying22 info_u8 _ ⟨w.heap.size, 0, none⟩ 4 magic rfl s4.out _ ⟨g, 0, none⟩ 4 4 (be 4 n) rfl (own_sl H2.out.1 (be_byte 4 n)) (by decide) (by decide) ?_; intro v3 w3 ho3 hb3; have H3 := Lib.hid (And.intro (ho3.mono (base' := w.heap.size) (Nat.le_trans HA.out.2.size H2.out.2.size)) (HA.out.2.trans ((H2.out.2.mono HA.out.2.size).trans (hb3.mono (Nat.le_trans HA.out.2.size H2.out.2.size))))); clear ho3 hb3)
    | fail)
  obtain ⟨a3, c3, hv3, hs3⟩ := H3.out.1.sl (hd0_byte n)
  rw [show (magic ++ be 4 n).length = 8 from hd0_len n] at hv3 hs3
  subst hv3
  have OF := Lib.hid (rof_any a3 8 c3 _ w3 hs3)
  have hml := more_lt 0 (magic ++ be 4 n)
  have HH : Hid (head n = (magic ++ be 4 n) ++ be 4 (more 0 (magic ++ be 4 n))) := rfl
  have hl8 : (magic ++ be 4 n).length = 8 := hd0_len n
  clear hs3 s4 H2 HA HwA NU kc hwn
  generalize magic ++ be 4 n = b8 at H3 OF hml HH hl8
  generalize more 0 b8 = q at OF hml HH
  refine OF.out.mono ?_
  rintro e w4 ⟨rfl, rfl⟩
  have hwq : IntKind.u64.wrap (q : Int) = (q : Int) := by rw [IntKind.wrap_u64]; omega
  have NU := Lib.hid (number_any q 4 hml (by decide) (by decide) w3)
  have H8 := Lib.hid hl8
  clear OF hl8
  go_wp2_with (first
    | (go_at_call 30; refine NU.out.mono ?_; rintro e w5 ⟨g5, rfl, ho5, hb5⟩; have H5 := Lib.hid (And.intro ho5 (And.intro (H3.out.1.below hb5) (H3.out.2.trans (hb5.mono H3.out.2.size)))); clear ho5 hb5)
    | (at_builtin; refine wpList_append_sl rfl (.tmp 16) (.tmp 20) _ rfl w.heap.size _ Tryd.underlying22 info_u8 _ b8 rfl H5.out.2.1 _ (some ⟨g5, 0, none⟩) 4 4 (be 4 q) rfl (own_sl H5.out.1 (be_byte 4 q)) (by have := H8.out; omega) H5.out.2.2.size ?_; intro v6 w6 ho6 hg6 hat6; have H6 := Lib.hid (And.intro ho6 (H5.out.2.2.grown hg6 H5.out.2.2.size (fun k hk => (H5.out.2.1.at_base hk).1))); clear ho6 hg6 hat6)
    | fail)
  go_ret
  exact ⟨_, rfl, by rw [HH.out]; exact H6.out.1, H6.out.2⟩
end Go.Proofs.YtiiellclnmakpaaDoor

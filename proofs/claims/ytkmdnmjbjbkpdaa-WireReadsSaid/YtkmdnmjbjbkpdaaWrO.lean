/- The reference's reader: Num. -/
import Derived.Test.YtkmdnmjbjbkpdaaWrN
namespace Go.Proofs.Ytkmdnmjbjbkpdaa
open Go.RowKit
open Wir

set_option linter.unusedSimpArgs false in
set_option maxRecDepth 100000 in
set_option maxHeartbeats 3200000 in
theorem rnum_any {w : World} {g : Nat} {s : RS} {O : Nat → Prop} (h : Rdr 58 w g s O) :
    Calls Try.prog 17 #[.pointer (some ⟨g, 0, none⟩)] w fun e w' => e = .returned (.int .i64 s.num.1) ∧ Rdr 58 w' g s.num.2 O ∧ But O w w' := by
  have hno := h.ok.le
  have hbig := h.big
  obtain ⟨a, c, hc, hs, hfar⟩ := h.ex
  have k2 := cell_of_row _ _ 2 _ _ _ hc
  simp at k2
  have hle := hs.le
  by_cases he : s.e = 0
  · have e0 : ((s.e : Nat) : Int) = 0 := by omega
    have hT : Hid (s.num = if (num (s.bs.drop s.n)).2.2 ≠ 0 then (0, { s with e := (num (s.bs.drop s.n)).2.2 }) else ((num (s.bs.drop s.n)).1, { s with n := s.n + (num (s.bs.drop s.n)).2.1 })) := by
      show _ = _
      unfold RS.num RS.told
      rw [if_neg (by omega)]
    rw [e0] at k2
    have CELLS : Hid (∀ x, Below w.heap.size w x → x.cell? ⟨g, 0, none⟩ = some (.slice a s.bs.length c) ∧ x.cell? ⟨g, 1, none⟩ = some (.int .i64 (s.n : Int)) ∧ x.frozen? ⟨g, 1, none⟩ = false ∧ x.frozen? ⟨g, 2, none⟩ = false ∧ x.cell? ⟨g, 2, none⟩ = some (.int .i64 0)) := fun x hx => by
      have hb := (hx.block g (lt_of_heap hc)).trans hc
      exact ⟨by rw [cell_of_row _ _ 0 _ _ _ hb]; rfl, by rw [cell_of_row _ _ 1 _ _ _ hb]; rfl, frozen_of_row _ _ 1 _ _ hb, frozen_of_row _ _ 2 _ _ hb, by rw [cell_of_row _ _ 2 _ _ _ hb, ← e0]; rfl⟩
    have BYTE : Hid (∀ x, Below w.heap.size w x → ∀ k, s.n + k < s.bs.length → ∃ b o, a = some ⟨b, o, none⟩ ∧ x.cell? ⟨b, o + (s.n + k), none⟩ = some (.int .u8 (((s.bs.drop s.n).getD k 0 : Nat) : Int)) ∧ (s.bs.drop s.n).getD k 0 < 256) := fun x hx k hk => by
      obtain ⟨b, o, e1, hlt, hcc⟩ := ((hs.below hx (Nat.le_refl _)).more hx.size).at_ (by omega)
      refine ⟨b, o, e1, ?_, ?_⟩
      · rw [hcc (s.n + k) hk, List.getD_eq_getElem?_getD, List.getD_eq_getElem?_getD, List.getElem?_drop]
      · rw [List.getD_eq_getElem?_getD, List.getElem?_drop, ← List.getD_eq_getElem?_getD]
        exact hs.lt hk
    have H := Lib.hid h
    have hrl : (s.bs.drop s.n).length = s.bs.length - s.n := List.length_drop
    generalize s.bs.drop s.n = rest at hT BYTE hrl
    have Hrl := Lib.hid hrl
    clear hs hfar he e0 hc h hrl
    go_enter Try.func17, Try.ntmps17
    go_wp2_with fail
    go_loopw [3, 4] (fun v i wr => ∃ k : Nat, k ≤ 9 ∧ i = .int .i64 (k : Int) ∧ v = .int .u64 ((sm (rest.take k) : Nat) : Int) ∧ (∀ j, j < k → 128 ≤ rest.getD j 0) ∧ s.n + k ≤ s.bs.length ∧ Below w.heap.size w wr) (fun _ i _ => 10 - (intOf i).toNat)
    case atStart => exact ⟨0, by omega, rfl, rfl, fun j hj => absurd hj (by omega), by omega, Below.refl _ _⟩
    case round =>
      obtain ⟨k, hk, rfl, rfl, hj, hkn, hB⟩ := hrel
      have HJ := Lib.hid hj
      have HB := Lib.hid hB
      obtain ⟨d0, d1, z1, z2, d2⟩ := CELLS.out wr hB
      have hwa : IntKind.i64.wrap ((s.n : Int) + (k : Int)) = (s.n : Int) + (k : Int) := by rw [IntKind.wrap_i64]; omega
      clear hj hB k2
      by_cases hend : s.n + k = s.bs.length
      · have hend' : (s.bs.length : Int) ≤ (s.n : Int) + (k : Int) := by omega
        have hT2 := hT.out
        rw [num_stop13 HJ.out (by have := Hrl.out; omega) hk] at hT2
        simp only at hT2
        rw [if_pos (by simp)] at hT2
        have HT2 := Lib.hid hT2
        have HN := Lib.hid (H.out.sete (Below.drew HB.out) 13 (by decide))
        clear hT2
        go_wp2_with fail
        go_region
        all_goals
          go_wp2
          go_ret
          rw [HT2.out]
          exact ⟨rfl, HN.out.1, HN.out.2⟩
      · have hlt : s.n + k < s.bs.length := by omega
        have hend' : (s.n : Int) + (k : Int) < (s.bs.length : Int) := by omega
        obtain ⟨b, o, rfl, cb, hx256⟩ := BYTE.out wr HB.out k hlt
        have hkr : k < rest.length := by have := Hrl.out; omega
        have hx9 := sm_small (rest := rest) (k := k) hkr hk
        have Hk := Lib.hid hkr
        by_cases hbad : k = 9 ∧ 1 < rest.getD k 0
        · obtain ⟨rfl, hb1⟩ := hbad
          have hT2 := hT.out
          rw [num_stop12 HJ.out hkr hb1] at hT2
          simp only at hT2
          rw [if_pos (by simp)] at hT2
          have HT2 := Lib.hid hT2
          have HN := Lib.hid (H.out.sete (Below.drew (Below.drew HB.out)) 12 (by decide))
          generalize rest.getD 9 0 = x at *
          have hb1' : (1 : Int) < (x : Int) := by omega
          clear hT2 hx9
          go_wp2_with fail
          go_region
          all_goals
            go_wp2_with fail
            go_region
            all_goals
              go_wp2
              go_ret
              rw [HT2.out]
              exact ⟨rfl, HN.out.1, HN.out.2⟩
        · have hsm := Lib.hid (hx9 hbad)
          have htk := sm_take rest k hkr
          have hAD := add_next (sm (rest.take k)) (rest.getD k 0 % 128) k (by have := hsm.out; omega)
          rw [← htk] at hAD
          have hYES := Lib.hid (fun h1 h2 => num_yes (rest := rest) (k := k) HJ.out hkr hk h1 hbad h2)
          have hZ := Lib.hid (fun h1 h2 => num_zero (rest := rest) (k := k) HJ.out hkr hk h1 h2)
          have hNJ : Hid (¬ rest.getD k 0 < 128 → ∀ j, j < k + 1 → 128 ≤ rest.getD j 0) := fun h j hj => by
            by_cases e : j = k
            · subst e; omega
            · exact HJ.out j (by omega)
          have hk8 : ¬ rest.getD k 0 < 128 → k ≤ 8 := fun h => by omega
          have hdec : k = 9 ∧ rest.getD k 0 ≤ 1 ∨ k ≤ 8 := by omega
          have HTK := Lib.hid htk
          clear htk hx9 hbad
          generalize hv : sm (rest.take k) = v at *
          have Hv := Lib.hid hv
          clear hv
          generalize hV : sm (rest.take (k + 1)) = V at *
          have HV := Lib.hid hV
          clear hV
          generalize rest.getD k 0 = x at *
          have hxx : ((x % 128 : Nat) : Int) = (x : Int) % 128 := by omega
          rw [hxx] at hAD
          have w7 : IntKind.i64.wrap (7 * (k : Int)) = 7 * (k : Int) := by rw [IntKind.wrap_i64]; omega
          have SH := fun y => shl_any ((x : Int) % 128) k hk y
          rcases hdec with ⟨rfl, hx1⟩ | h8
          · have hwa' : IntKind.i64.wrap ((s.n : Int) + 9) = (s.n : Int) + 9 := by rw [IntKind.wrap_i64]; omega
            have hend'' : (s.n : Int) + 9 < (s.bs.length : Int) := by omega
            clear hwa hend' w7 SH
            by_cases h0 : x = 0
            · subst h0
              have SH0 : ∀ y, (Op.shift .shl .u64 0 .i64 63).run Try.prog y = .ok (.int .u64 0) y := fun _ => rfl
              clear hAD hxx
              have hT2 := hT.out
              rw [hZ.out rfl (by omega)] at hT2
              simp only at hT2
              rw [if_pos (by simp)] at hT2
              have HT2 := Lib.hid hT2
              have HN := Lib.hid (H.out.sete (Below.drew (Below.drew HB.out)) 12 (by decide))
              clear hT2
              go_wp2_with fail
              go_region
              all_goals
                go_wp2_with fail
                go_region
                all_goals
                  go_wp2
                  go_ret
                  rw [HT2.out]
                  exact ⟨rfl, HN.out.1, HN.out.2⟩
            · obtain rfl : x = 1 := by omega
              have SH1 : ∀ y, (Op.shift .shl .u64 1 .i64 63).run Try.prog y = .ok (.int .u64 9223372036854775808) y := fun _ => rfl
              have hAD9 : IntKind.u64.wrap ((v : Int) + 9223372036854775808) = (V : Int) := by rw [← hAD]; rfl
              clear hAD hxx
              have hT2 := hT.out
              rw [hYES.out (by omega) (by omega)] at hT2
              simp only at hT2
              rw [if_neg (by simp)] at hT2
              have HT2 := Lib.hid hT2
              have HN := H.out.setn (Below.drew (Below.drew HB.out)) (s.n + (9 + 1)) (by omega)
              rw [show ((s.n + (9 + 1) : Nat) : Int) = (s.n : Int) + 9 + 1 from by omega] at HN
              have HN := Lib.hid HN
              have hwb : IntKind.i64.wrap ((s.n : Int) + 9 + 1) = (s.n : Int) + 9 + 1 := by rw [IntKind.wrap_i64]; omega
              have hVs := hsm.out
              have e1 : IntKind.i64.wrap ((V : Int) / 2) = (V : Int) / 2 := by rw [IntKind.wrap_i64]; omega
              clear hT2
              by_cases hp : V % 2 = 1
              · have p0 : (V : Int) % 2 = 1 := by omega
                have e2 : IntKind.i64.wrap (-((V : Int) / 2)) = -((V : Int) / 2) := by rw [IntKind.wrap_i64]; omega
                have e3 : IntKind.i64.wrap (-((V : Int) / 2) - 1) = unc V := by rw [IntKind.wrap_i64]; unfold unc; rw [if_pos hp]; omega
                go_wp2_with fail
                go_region
                all_goals
                  go_wp2_with fail
                  go_region
                  all_goals
                    go_wp2
                    go_ret
                    rw [HT2.out]
                    exact ⟨ret_i64 rfl, HN.out.1, HN.out.2⟩
              · have p0 : (V : Int) % 2 = 0 := by omega
                have e3 : unc V = (V : Int) / 2 := by unfold unc; rw [if_neg hp]; omega
                have E3 := Lib.hid e3
                clear e3
                go_wp2_with fail
                go_region
                all_goals
                  go_wp2_with fail
                  go_region
                  all_goals
                    go_wp2
                    go_ret
                    rw [HT2.out]
                    exact ⟨ret_i64 E3.out.symm, HN.out.1, HN.out.2⟩
          · have y9 : ((k : Int) == 9) = false := by simp; omega
            by_cases hlo : x < 128
            · have hlo' : (x : Int) < 128 := by omega
              by_cases h0 : x = 0
              · subst h0
                by_cases hk0 : 0 < k
                · have k0' : (0 : Int) < (k : Int) := by omega
                  have SH0 : ∀ y, (Op.shift .shl .u64 0 .i64 (7 * (k : Int))).run Try.prog y = .ok (.int .u64 0) y := fun y => by
                    have := shl_any 0 k hk y
                    rw [Int.zero_mul] at this
                    exact this
                  have hvv : IntKind.u64.wrap (v : Int) = (v : Int) := by have := hsm.out; have := HTK.out; rw [IntKind.wrap_u64]; omega
                  clear SH hAD hxx
                  have hT2 := hT.out
                  rw [hZ.out rfl hk0] at hT2
                  simp only at hT2
                  rw [if_pos (by simp)] at hT2
                  have HT2 := Lib.hid hT2
                  have HN := Lib.hid (H.out.sete (Below.drew (Below.drew HB.out)) 12 (by decide))
                  clear hT2
                  go_wp2_with fail
                  go_region
                  all_goals
                    go_wp2_with fail
                    go_region
                    all_goals
                      go_wp2
                      go_ret
                      rw [HT2.out]
                      exact ⟨rfl, HN.out.1, HN.out.2⟩
                · obtain rfl : k = 0 := by omega
                  have hv0 : v = 0 := Hv.out.symm
                  have hV0 : V = 0 := by have := HTK.out; omega
                  subst hv0
                  have hU : Hid (unc V = 0) := by show _ = _; rw [hV0]; rfl
                  have SH0 : ∀ y, (Op.shift .shl .u64 0 .i64 0).run Try.prog y = .ok (.int .u64 0) y := fun _ => rfl
                  have hT2 := hT.out
                  rw [hYES.out hlo (by omega)] at hT2
                  simp only at hT2
                  rw [if_neg (by simp)] at hT2
                  have HT2 := Lib.hid hT2
                  have HN := H.out.setn (Below.drew (Below.drew HB.out)) (s.n + (0 + 1)) (by omega)
                  rw [show ((s.n + (0 + 1) : Nat) : Int) = (s.n : Int) + 1 from by omega] at HN
                  have HN := Lib.hid HN
                  have hwb : IntKind.i64.wrap ((s.n : Int) + 1) = (s.n : Int) + 1 := by rw [IntKind.wrap_i64]; omega
                  have hwc : IntKind.i64.wrap (s.n : Int) = (s.n : Int) := by rw [IntKind.wrap_i64]; omega
                  have hendc : (s.n : Int) < (s.bs.length : Int) := by omega
                  rw [Nat.add_zero] at cb
                  clear hT2 SH hAD hxx hwa hend' hV0 w7
                  go_wp2_with fail
                  go_region
                  all_goals
                    go_wp2_with fail
                    go_region
                    all_goals
                      go_wp2
                      go_ret
                      rw [HT2.out]
                      exact ⟨ret_i64 hU.out.symm, HN.out.1, HN.out.2⟩
              · have x0 : ((x : Int) == 0) = false := by simp; omega
                have hT2 := hT.out
                rw [hYES.out hlo (by omega)] at hT2
                simp only at hT2
                rw [if_neg (by simp)] at hT2
                have HT2 := Lib.hid hT2
                have HN := H.out.setn (Below.drew (Below.drew HB.out)) (s.n + (k + 1)) (by omega)
                rw [show ((s.n + (k + 1) : Nat) : Int) = (s.n : Int) + (k : Int) + 1 from by omega] at HN
                have HN := Lib.hid HN
                have hwb : IntKind.i64.wrap ((s.n : Int) + (k : Int) + 1) = (s.n : Int) + (k : Int) + 1 := by rw [IntKind.wrap_i64]; omega
                have hVs := hsm.out
                have e1 : IntKind.i64.wrap ((V : Int) / 2) = (V : Int) / 2 := by rw [IntKind.wrap_i64]; omega
                clear hT2
                by_cases hp : V % 2 = 1
                · have p0 : (V : Int) % 2 = 1 := by omega
                  have e2 : IntKind.i64.wrap (-((V : Int) / 2)) = -((V : Int) / 2) := by rw [IntKind.wrap_i64]; omega
                  have e3 : IntKind.i64.wrap (-((V : Int) / 2) - 1) = unc V := by rw [IntKind.wrap_i64]; unfold unc; rw [if_pos hp]; omega
                  go_wp2_with fail
                  go_region
                  all_goals
                    go_wp2_with fail
                    go_region
                    all_goals
                      go_wp2
                      go_ret
                      rw [HT2.out]
                      exact ⟨ret_i64 rfl, HN.out.1, HN.out.2⟩
                · have p0 : (V : Int) % 2 = 0 := by omega
                  have e3 : unc V = (V : Int) / 2 := by unfold unc; rw [if_neg hp]; omega
                  have E3 := Lib.hid e3
                  clear e3
                  go_wp2_with fail
                  go_region
                  all_goals
                    go_wp2_with fail
                    go_region
                    all_goals
                      go_wp2
                      go_ret
                      rw [HT2.out]
                      exact ⟨ret_i64 E3.out.symm, HN.out.1, HN.out.2⟩
            · have hlo' : ¬ (x : Int) < 128 := by omega
              go_wp2_with fail
              go_region
              all_goals
                go_wp2_with fail
                go_region
                all_goals
                  go_wp2
                  go_roundw
                  case rel => exact ⟨k + 1, by have := hk8 hlo; omega, by go_num, by rw [HV.out], hNJ.out hlo, by omega, Below.drew (Below.drew HB.out)⟩
                  case measure => simp [intOf]; omega
  · have hT : Hid (s.num = (0, s)) := by show _ = _; unfold RS.num RS.told; rw [if_pos he]
    have he' : ¬ ((s.e : Nat) : Int) = 0 := by omega
    have H := Lib.hid h
    clear hs hfar h hc
    go_enter Try.func17, Try.ntmps17
    go_wp2
    go_ret
    rw [hT.out]
    exact ⟨rfl, H.out, But.refl _ _⟩
end Go.Proofs.Ytkmdnmjbjbkpdaa

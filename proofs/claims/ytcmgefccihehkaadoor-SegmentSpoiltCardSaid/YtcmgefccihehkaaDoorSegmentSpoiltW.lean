/- SegmentSpoilt: the walk. -/
import Derived.Test.YtcmgefccihehkaaDoorSegmentNamesW
import Derived.Test.YtcmgefccihehkaaDoorSgP
namespace Go.Proofs.YtcmgefccihehkaaDoor
open Go.RowKit Go.Shelf
open Crc Frm

theorem xor_ne' {c b : Nat} (hb : b ≠ 0) : c ^^^ b ≠ c := by
  intro h
  have := congrArg (fun t => c ^^^ t) h
  simp [← Nat.xor_assoc] at this
  exact hb this
theorem h_headn (n : Nat) (hn : n ≤ 1073741824) (w : World) : Calls Tryd.prog 16 #[.int .i64 (n : Int)] w fun e w' => ∃ a cap, e = .returned (.slice a 12 cap) ∧ Sl w' w'.heap.size a 12 cap (head n) ∧ Below w.heap.size w w' :=
  (segHead_yes n hn w).mono fun e w' h => by
    obtain ⟨v, rfl, ho, hb⟩ := h
    obtain ⟨a, cap, rfl, hs⟩ := ho.sl (head_byte n)
    rw [head_len] at hs
    exact ⟨a, cap, by rw [head_len], hs, hb⟩
theorem h_readn {bs : List Nat} {n er : Nat} (hr : rd bs = (0, [], n, er)) (r : Option Addr) (len cr : Nat) (w : World) (hs : Sl w w.heap.size r len cr bs) (hl : len ≤ 100000) : Calls Tryd.prog 12 #[.slice r len cr] w fun e w' => ∃ va vc, e = .returned (.tuple #[.int .i64 0, .slice va 0 vc, .int .i64 (n : Int), .int .i64 (er : Int)]) ∧ Below w.heap.size w w' :=
  (segRead_of hr r len cr w hs hl).mono fun e w' h => by
    obtain ⟨va, vc, rfl, _, hb⟩ := h
    exact ⟨va, vc, rfl, hb⟩

set_option maxRecDepth 100000 in
set_option maxHeartbeats 3200000 in
theorem segmentSpoilt_walk (n at' by' : Nat) (hn : n < 4294967296) (hat : at' < 256) (hby : by' < 256) (a : Option Addr) (len cap : Nat) (bs : List Nat) (w : World) (hL : Laid w) (hs : Sl w w.heap.size a len cap bs) :
    Calls Tryd.prog 8 #[.int .u32 (n : Int), .int .u8 (at' : Int), .int .u8 (by' : Int), .slice a len cap] w fun e w' => e = .returned (.bool true) ∧ Below w.heap.size w w' := by
  obtain ⟨q, hq⟩ : ∃ q, q = n % 1073741825 := ⟨_, rfl⟩
  have hqn : (n : Int) % 1073741825 = (q : Int) := by rw [hq]; omega
  have hq1 : q ≤ 1073741824 := by omega
  have HQ := Lib.hid hq1
  have HS := Lib.hid hs
  clear hq
  go_enter Tryd.func8, Tryd.ntmps8
  go_upto_region 2 with (go_at_call 9; (with_reducible refine (shead_any _ hL).mono ?_); rintro e w1 ⟨rfl, hb⟩; have K1 := Lib.hid (KL.mk hb (hL.on hb)); clear hb)
  clear hL
  go_upto_region 3 with (go_at_call 16; (with_reducible refine (h_headn q HQ.out _).mono ?_); rintro e w2 ⟨ah, ch, rfl, hsh, hb⟩; have K2 := Lib.hid (K1.out.on hb); have SH := Lib.hid hsh; clear hb hsh)
  clear K1 hqn hq1
  by_cases hb0 : by' = 0
  · subst hb0
    go_wp2_with fail
    go_ret
    exact ⟨rfl, K2.out.below⟩
  · have hb0' : ((by' : Int) == 0) = false := by simp; omega
    by_cases hl : len ≤ 900
    · have hl' : decide ((900 : Int) < (len : Int)) = false := by simp; omega
      obtain ⟨k, hk⟩ : ∃ k, k = at' % 12 := ⟨_, rfl⟩
      have hki : (at' : Int) % 12 = (k : Int) := by rw [hk]; omega
      have hk12 : k < 12 := by omega
      have hown0 : OwnB (w2.alloc (.cells #[] 5)) w2.heap.size 5 (.slice (some ⟨w2.heap.size, 0, none⟩) 0 0) [] := OwnB.lit _ [] (Nat.le_refl _) (by decide)
      have hs2 := SH.out.below ((Below.refl _ w2).alloc (Nat.le_refl _) (.cells #[] 5)) (Nat.le_refl _)
      have hs3 := HS.out.below K2.out.below (Nat.le_refl _)
      have HO := Lib.hid (And.intro hown0 (And.intro hs2 hs3))
      clear hown0 hs2 hs3 hk
      go_upto_region 7 with (first
        | (at_builtin; refine wpList_append_sl rfl (.tmp 47) (.tmp 48) _ rfl w2.heap.size _ Tryd.underlying22 info_u8 (.slice (some ⟨w2.heap.size, 0, none⟩) 0 0) [] rfl HO.out.1 _ ah 12 ch (head q) rfl HO.out.2.1 (by decide) (by simp) ?_; intro v3 w3 ho1 hg1 hat1; have HX := Lib.hid (And.intro ho1 (((Below.refl _ w2).alloc (Nat.le_refl _) _).grown hg1 (by simp) (fun k hk => by simp [Value.ownBlock] at hk; omega))); clear ho1 hg1 hat1)
        | (at_builtin; refine wpList_append_sl rfl (.tmp 49) (.tmp 50) _ rfl w2.heap.size _ Tryd.underlying22 info_u8 v3 _ rfl HX.out.1 _ a len cap bs rfl ((HO.out.2.2.below (HX.out.2.mono K2.out.below.size) (Nat.le_refl _))) (by rw [List.nil_append, head_len]; omega) HX.out.2.size ?_; intro v4 w4 ho4 hg4 _; have HX4 := Lib.hid (And.intro ho4 (HX.out.2.grown hg4 HX.out.2.size (fun k hk => (HX.out.1.at_base hk).1))); clear ho4 hg4))
      have ho3 := HX4.out.1
      rw [List.nil_append] at ho3
      have hB3 := HX4.out.2
      have hlen : (head q ++ bs).length = 12 + len := by rw [List.length_append, head_len, HS.out.length]
      have hbx : ∀ c ∈ head q ++ bs, c < 256 := fun c hc => by
        rcases List.mem_append.1 hc with h | h
        · exact head_byte q c h
        · exact HS.out.byte c h
      obtain ⟨g3, c3, hv3, hge3, _⟩ := World.ownsRow.form ho3 (by omega)
      subst hv3
      have hk3 := ho3.cell (k := k) (by omega)
      have hcl : (head q ++ bs).getD k 0 < 256 := by
        rw [List.getD_eq_getElem?_getD, List.getElem?_eq_getElem (by omega)]
        exact hbx _ (List.getElem_mem _)
      have hsp := rd_spoilt q bs k ((head q ++ bs).getD k 0 ^^^ by') hk12 (Crc.xor_lt8 hcl hby) (by rw [show (head q).getD k 0 = (head q ++ bs).getD k 0 from (getD_append_left' (by rw [head_len]; exact hk12)).symm]; exact xor_ne' hb0)
      have hx8 := u8_xor_nat ((head q ++ bs).getD k 0) by' hcl hby
      have hl8 := Crc.xor_lt8 hcl hby
      have ho4 := ho3.set_ k ((head q ++ bs).getD k 0 ^^^ by')
      have hby4 : ∀ c ∈ (head q ++ bs).set k ((head q ++ bs).getD k 0 ^^^ by'), c < 256 := fun c hc => by
        rcases List.mem_or_eq_of_mem_set hc with h | h
        · exact hbx c h
        · omega
      obtain ⟨a4, c4, hv4, hs4⟩ := ho4.sl hby4
      have ha4 : a4 = some ⟨g3, 0, none⟩ := by injection hv4 with h1 h2 h3; exact h1.symm
      have hc4 : c4 = c3 := by injection hv4 with h1 h2 h3; exact h3.symm
      subst ha4 hc4
      rw [List.length_set, hlen] at hs4
      rw [hlen]
      generalize (head q ++ bs).getD k 0 ^^^ by' = y at *
      generalize (head q ++ bs).getD k 0 = c at *
      have S4 := Lib.hid hs4
      have K4 := Lib.hid (K2.out.on (hB3.setCell (p := ⟨g3, k, none⟩) hge3 (bv y)))
      have G4 := Lib.hid hsp
      have hkl' : (k : Int) < ((12 + len : Nat) : Int) := by omega
      clear hs4 hsp ho4 ho3 hB3 hby4 hv4 hbx K2 HX HX4 HO hlen hge3 SH
      by_cases h4 : k < 4
      · have h4' : decide ((k : Int) < 4) = true := by simp; omega
        have G5 := G4.out
        rw [if_pos h4] at G5
        have G5 := Lib.hid G5
        clear h4 G4
        have RD := Lib.hid (h_readn G5.out _ _ _ _ S4.out (by omega))
        go_wp2_with (go_at_call 12; refine RD.out.mono ?_; rintro e w5 ⟨va, vc, rfl, hb⟩; have K5 := Lib.hid (K4.out.on hb); clear hb)
        go_ret
        exact ⟨rfl, K5.out.below⟩
      · have h4' : decide ((4 : Int) ≤ (k : Int)) = true := by simp; omega
        have G5 := G4.out
        rw [if_neg h4] at G5
        have G5 := Lib.hid G5
        clear h4 G4
        have RD := Lib.hid (h_readn G5.out _ _ _ _ S4.out (by omega))
        go_wp2_with (go_at_call 12; refine RD.out.mono ?_; rintro e w5 ⟨va, vc, rfl, hb⟩; have K5 := Lib.hid (K4.out.on hb); clear hb)
        go_ret
        exact ⟨rfl, K5.out.below⟩
    · have hl' : decide ((900 : Int) < (len : Int)) = true := by simp; omega
      go_wp2_with fail
      go_ret
      exact ⟨rfl, K2.out.below⟩
end Go.Proofs.YtcmgefccihehkaaDoor

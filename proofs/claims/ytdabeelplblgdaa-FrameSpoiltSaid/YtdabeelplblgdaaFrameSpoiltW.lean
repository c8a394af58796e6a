/- FrameSpoilt: the walk. -/
import Derived.Test.YtdabeelplblgdaaFrOne
namespace Go.Proofs.Ytdabeelplblgdaa
open Go.RowKit
open Crc Frm

theorem xor_ne {c b : Nat} (hb : b ≠ 0) : c ^^^ b ≠ c := by
  intro h
  have := congrArg (fun t => c ^^^ t) h
  simp [← Nat.xor_assoc] at this
  exact hb this

set_option maxHeartbeats 3200000 in
theorem frameSpoilt_walk (f : Fr) (a : Option Addr) (ca : Nat) (at' : Nat) (by' : Nat) (hat : at' < 65536) (hby : by' < 256) (w : World) (hs : Sl w w.heap.size a f.body.length ca f.body) :
    Calls Try.prog 6 #[.agg #[.int .i64 f.ty, .int .i64 f.seq, .slice a f.body.length ca], .int .u16 (at' : Int), .int .u8 (by' : Int)] w fun e w' => e = .returned (.bool true) ∧ Below w.heap.size w w' := by
  have PF := Lib.hid (put_any f a ca)
  have RF := Lib.hid (right_any f a ca)
  have HS := Lib.hid hs
  go_enter Try.func6, Try.ntmps6
  go_wp2_with fail
  refine (head_any _).mono ?_
  rintro e w1 ⟨rfl, hb1⟩
  have K1 := Lib.hid ((One.start w f a ca).on hb1)
  obtain ⟨x0, x1, x2⟩ := K1.out.cells
  clear hb1 hs
  go_wp2_with fail
  refine (PF.out w1 (K1.out.sl HS.out)).mono ?_
  rintro e w2 ⟨vx, rfl, hox, hb2⟩
  have K2 := Lib.hid (K1.out.on hb2)
  clear x0 x1 x2
  obtain ⟨x0, x1, x2⟩ := K2.out.cells
  obtain ⟨ax, cx, hvx, hsx⟩ := hox.sl (put_byte f HS.out.byte)
  subst hvx
  have SX := Lib.hid hsx
  clear hox hsx hb2 K1 PF
  by_cases hgo : f.body.length ≤ 9000 ∧ f.right ∧ by' ≠ 0
  · obtain ⟨h9, rf, hb0⟩ := hgo
    have px : put f = raw f := by unfold put; rw [if_pos rf]
    rw [px] at SX ⊢
    have ex := raw_len f
    obtain ⟨lx, hlx⟩ : ∃ l, l = (raw f).length := ⟨_, rfl⟩
    rw [← hlx] at SX ex ⊢
    have hl1 : (11 : Int) ≤ (lx : Int) := by omega
    have hl2 : lx ≤ 1811 := by have := rf.2.2.2.2; omega
    have h9' : ((f.body.length : Nat) : Int) ≤ 9000 := by omega
    have hb0' : ((by' : Int) == 0) = false := by simp; omega
    obtain ⟨k, hk⟩ : ∃ k, k = 2 + at' % (lx - 2) := ⟨_, rfl⟩
    have hkl : k < lx := by have := Nat.mod_lt at' (show 0 < lx - 2 by omega); omega
    have hki : (2 : Int) + (at' : Int) % ((lx : Int) - 2) = (k : Int) := by
      rw [hk, show (lx : Int) - 2 = ((lx - 2 : Nat) : Int) from by omega]
      omega
    have hk2 : 2 ≤ k := by omega
    have hown0 : OwnB (w2.alloc (.cells #[] 5)) w2.heap.size 5 (.slice (some ⟨w2.heap.size, 0, none⟩) 0 0) [] := OwnB.lit _ [] (Nat.le_refl _) (by decide)
    have hs2 := SX.out.below ((Below.refl _ w2).alloc (Nat.le_refl _) (.cells #[] 5)) (Nat.le_refl _)
    have hbx := raw_byte f HS.out.byte
    have hcl : (raw f).getD k 0 < 256 := by
      rw [List.getD_eq_getElem?_getD, List.getElem?_eq_getElem (by omega)]
      exact hbx _ (List.getElem_mem _)
    have hsp := get_spoilt f rf HS.out.byte k ((raw f).getD k 0 ^^^ by') hk2 (by omega) (Crc.xor_lt8 hcl hby) (xor_ne hb0)
    have hx8 := u8_xor_nat ((raw f).getD k 0) by' hcl hby
    have hl8 := Crc.xor_lt8 hcl hby
    have Hl := Lib.hid hlx
    clear hk px ex hlx
    go_upto_region 7 with (at_builtin; refine wpList_append_sl rfl (.tmp 53) (.tmp 54) _ rfl w2.heap.size _ Try.underlying22 info_u8 (.slice (some ⟨w2.heap.size, 0, none⟩) 0 0) [] rfl hown0 _ ax lx cx (raw f) rfl hs2 (by simp; omega) (by simp) ?_; intro v3 w3 ho3 hg3 hat3)
    rw [List.nil_append] at ho3
    have hB3 : Below w2.heap.size w2 w3 := ((Below.refl _ w2).alloc (Nat.le_refl _) _).grown hg3 (by simp) (fun k hk => by simp [Value.ownBlock] at hk; omega)
    obtain ⟨g3, c3, hv3, hge3, _⟩ := World.ownsRow.form ho3 (by rw [← Hl.out]; omega)
    subst hv3
    have hk3 := ho3.cell (k := k) (by rw [← Hl.out]; exact hkl)
    have ho4 := ho3.set_ k ((raw f).getD k 0 ^^^ by')
    have hby4 : ∀ c ∈ (raw f).set k ((raw f).getD k 0 ^^^ by'), c < 256 := fun c hc => by
      rcases List.mem_or_eq_of_mem_set hc with h | h
      · exact hbx c h
      · omega
    obtain ⟨a4, c4, hv4, hs4⟩ := ho4.sl hby4
    have ha4 : a4 = some ⟨g3, 0, none⟩ := by injection hv4 with h1 h2 h3; exact h1.symm
    have hc4 : c4 = c3 := by injection hv4 with h1 h2 h3; exact h3.symm
    subst ha4 hc4
    rw [List.length_set, ← Hl.out] at hs4
    rw [← Hl.out]
    generalize (raw f).getD k 0 ^^^ by' = y at *
    generalize (raw f).getD k 0 = c at *
    have S4 := Lib.hid hs4
    have K4 := Lib.hid (K2.out.on (hB3.setCell (p := ⟨g3, k, none⟩) hge3 (bv y)))
    have G4 := Lib.hid hsp
    have hkl' : (k : Int) < (lx : Int) := by omega
    clear hs4 hsp ho4 ho3 hg3 hat3 hB3 hby4 hv4 hbx hown0 hs2 K2 SX x0 x1 x2 Hl
    go_wp2_with fail
    refine (get_of G4.out (some ⟨g3, 0, none⟩) lx c4 _ S4.out).mono ?_
    rintro e w5 ⟨ba, bc, rfl, _, hb5, _⟩
    have K5 := Lib.hid (K4.out.on hb5)
    clear hb5 K4 S4
    go_wp2
    go_ret
    exact ⟨rfl, K5.out.below.alloc K5.out.below.size _⟩
  · have hxl : f.right → (put f).length = f.body.length + 11 := fun h => by unfold put; rw [if_pos h, raw_len]
    have hxn : ¬ f.right → (put f).length = 0 := fun h => by unfold put; rw [if_neg h]; rfl
    generalize (put f).length = lx at hxl hxn SX ⊢
    by_cases h9 : f.body.length ≤ 9000
    · by_cases hb0 : by' = 0
      · subst hb0
        have h9' : ((f.body.length : Nat) : Int) ≤ 9000 := by omega
        clear hxl hxn hgo
        go_wp2
        all_goals
          go_ret
          exact ⟨by simp, K2.out.below⟩
      · have rf : ¬ f.right := fun h => hgo ⟨h9, h, hb0⟩
        have hl0 := hxn rf
        subst hl0
        have h9' : ((f.body.length : Nat) : Int) ≤ 9000 := by omega
        have hb0' : ((by' : Int) == 0) = false := by simp; omega
        rw [decide_eq_false rf] at RF
        clear hxl hxn hgo
        go_wp2_with fail
        refine (RF.out w2).mono ?_
        rintro e w5 ⟨rfl, hb5⟩
        have K5 := Lib.hid (K2.out.on hb5)
        clear hb5 K2
        go_wp2
        go_ret
        exact ⟨rfl, K5.out.below⟩
    · have h9' : (9000 : Int) < ((f.body.length : Nat) : Int) := by omega
      clear hxl hxn hgo
      go_wp2
      go_ret
      exact ⟨rfl, K2.out.below⟩
end Go.Proofs.Ytdabeelplblgdaa

/- The reference's Get of lists. -/
import Derived.Test.YtohiheohndmccaaGreatMfU
import Derived.Test.YtohiheohndmccaaGreatMfI
import Derived.Test.YtohiheohndmccaaGreatOwI
import Derived.Test.YtohiheohndmccaaGreatTake
namespace Go.Proofs.YtohiheohndmccaaGreat
open Go.RowKit Go.Sort
open Crc Frm
attribute [local go_sem] Oper.semAt_some

theorem OwnV.keptV {w w' : World} {base : Nat} {e : TypeId} {v : Value} {us : List Value} (h : OwnV w base e v us) (hg : w.grownBy w' none) : OwnV w' base e v us := by
  rcases h.2 with ⟨h1, h2⟩ | ⟨g, cap, cur, rfl, _⟩
  · exact ⟨h.1, .inl ⟨h1, h2⟩⟩
  · exact h.kept hg (by simp)
theorem mList_len (bs : List Nat) : (mList bs).length = bs.getD 0 0 := by simp [mList]
theorem mList_snoc (bs : List Nat) (j : Nat) (hj : j < bs.getD 0 0) : (mList bs).take (j + 1) = (mList bs).take j ++ [mNum bs j] := by
  rw [List.take_succ_eq_append_getElem (by rw [mList_len]; exact hj)]
  simp [mList]
set_option linter.unusedSimpArgs false in
set_option maxRecDepth 100000 in
set_option maxHeartbeats 3200000 in
theorem rget5_any (a : Option Addr) (len cap : Nat) (bs : List Nat) (w : World) (hs : Sl w w.heap.size a len cap bs) (hl : len ≤ 2000000) :
    Calls Tryz.prog 50 #[.slice a len cap] w fun e w' => ∃ v, e = .returned (.tuple #[v, .int .i64 (((mGet bs).2 : Nat) : Int)]) ∧ OwnV w' w.heap.size 2 v (i64V (mGet bs).1) ∧ Below w.heap.size w w' := by
  have hlen := hs.length
  have hcap := hs.le
  by_cases h0 : len = 0
  · subst h0
    have hg : mGet bs = ([], 12) := by unfold mGet; rw [if_pos (.inl hlen)]
    rw [hg]
    clear hs hlen hg
    go_enter Tryz.func50, Tryz.ntmps50
    go_wp2
    go_ret2
    exact ⟨_, rfl, OwnV.nil_ _ _ _, Below.refl _ _⟩
  · obtain ⟨b, o, rfl, hb, hc⟩ := hs.at_ (by omega)
    have c0 : w.cell? ⟨b, o, none⟩ = some (.int .u8 ((bs.getD 0 0 : Nat) : Int)) := hc 0 (by omega)
    have l0 : bs.getD 0 0 < 256 := by rw [List.getD_eq_getElem?_getD, List.getElem?_eq_getElem (by omega)]; exact hs.byte _ (List.getElem_mem _)
    have n0 : 0 < len := by omega
    have z0 : ((len : Int) == 0) = false := by simp; omega
    have z1 : ¬ ((len : Int) = 0) := by omega
    have HG : Hid (mGet bs = if len = 0 ∨ len ≠ 5 + 4 * bs.getD 0 0 then ([], 12) else if val (bs.drop (len - 4)) ≠ more 0 (bs.take (len - 4)) then ([], 14) else if mOk (mList bs) = true then (mList bs, 0) else ([], 12)) := by show _ = _; unfold mGet; rw [hlen]
    have HLn := Lib.hid (mList_len bs)
    have HSn := Lib.hid (mList_snoc bs)
    have HS := Lib.hid hs
    generalize bs.getD 0 0 = b0 at *
    have w0 : IntKind.i64.wrap (b0 : Int) = (b0 : Int) := by rw [IntKind.wrap_i64]; omega
    obtain ⟨q, hq⟩ : ∃ q, q = 5 + 4 * b0 := ⟨_, rfl⟩
    have w1 : IntKind.i64.wrap (4 * (b0 : Int)) = 4 * (b0 : Int) := by rw [IntKind.wrap_i64]; omega
    have w2 : IntKind.i64.wrap (5 + 4 * (b0 : Int)) = (q : Int) := by rw [IntKind.wrap_i64]; omega
    have Hq := Lib.hid hq
    clear hs hc hlen
    by_cases hlq : len = q
    · subst hlq
      have Hlq := Lib.hid hq
      clear hq
      obtain ⟨m, hm⟩ : ∃ m, m = len - 4 := ⟨_, rfl⟩
      have s4 : IntKind.i64.wrap ((len : Int) - 4) = (m : Int) := by have := Hlq.out; rw [IntKind.wrap_i64]; omega
      obtain ⟨a4, ha4⟩ : ∃ a4, a4 = fromA (some ⟨b, o, none⟩) cap m := ⟨_, rfl⟩
      have kcut : ∀ x, (Instr.slice 32 (.slice (some ⟨b, o, none⟩) len cap) none (some (.int .i64 (m : Int))) none).run Tryz.prog x = .ok (.slice (some ⟨b, o, none⟩) m cap) x := run_cut_to (P := Tryz.prog) 32 5 Tryz.underlying32 info_u8 _ len cap m (by omega)
      obtain ⟨c4, hc4⟩ : ∃ c4, c4 = cap - m := ⟨_, rfl⟩
      have hm4 : m + 4 = len := by have := Hlq.out; omega
      have kfrom : ∀ x, (Instr.slice 32 (.slice (some ⟨b, o, none⟩) len cap) (some (.int .i64 (m : Int))) none none).run Tryz.prog x = .ok (.slice a4 4 c4) x := fun x => by
        have := run_cut_from (P := Tryz.prog) 32 5 Tryz.underlying32 info_u8 (some ⟨b, o, none⟩) len cap m (by omega) x
        rw [this, ha4, hc4, show len - m = 4 from by omega]
        rfl
      have S4 : Sl w w.heap.size a4 4 c4 (bs.drop m) := by
        have := HS.out.from_ (k := m) (by omega)
        rw [← ha4, ← hc4, show len - m = 4 from by omega] at this
        exact this
      have SM : Sl w w.heap.size (some ⟨b, o, none⟩) m cap (bs.take m) := HS.out.take (by omega)
      have RD := Lib.hid (fun (x : World) (hx : Below w.heap.size w x) => rread_any a4 4 c4 (bs.drop m) x ((S4.below hx (Nat.le_refl _)).more hx.size) (Nat.le_refl _))
      have OF := Lib.hid (fun (x : World) (hx : Below w.heap.size w x) => rof_any (some ⟨b, o, none⟩) m cap (bs.take m) x ((SM.below hx (Nat.le_refl _)).more hx.size))
      rw [← hm] at HG
      have hv4 : val (bs.drop m) < 4294967296 := by
        have := val_lt (bs.drop m) S4.byte
        rw [S4.length] at this
        simpa using this
      have hmo := more_lt 0 (bs.take m)
      generalize val (bs.drop m) = x4 at *
      generalize more 0 (bs.take m) = y4 at *
      have hwy : IntKind.u64.wrap (y4 : Int) = (y4 : Int) := by rw [IntKind.wrap_u64]; omega
      have Hm := Lib.hid (show m = 1 + 4 * b0 by have := Hlq.out; omega)
      clear S4 SM ha4 hc4 hm
      by_cases hxy : x4 = y4
      · subst hxy
        have hg : Hid (mGet bs = if mOk (mList bs) = true then (mList bs, 0) else ([], 12)) := by
          show _ = _
          rw [HG.out, if_neg (by have := Hlq.out; omega), if_neg (by simp)]
        clear HG hv4 hmo
        go_enter Tryz.func50, Tryz.ntmps50
        go_upto_region 4 with fail
        refine wp_region_held_drew (S := fun x => Below w.heap.size w x) (by kernel_rfl) (Below.drew (Below.refl _ _)) (fun hHeld => ?_)
        refine wpAnyH_take (i := 0) (v := ?_) rfl (by kernel_rfl) (by kernel_rfl) (by kernel_rfl) (fun _ _ _ h => h) (Or.inl ⟨by rfl, ?_⟩) (by assumption) ?_
        rotate_left
        · intro w hSw
          (try dsimp only at hSw)
          go_simp
          all_goals with_reducible rfl
        try simp only [Act.put, List.getElem_toArray, List.getElem_cons_succ, List.getElem_cons_zero, List.setIfInBounds_toArray, List.set_cons_zero, List.set_cons_succ]
        refine wpAnyH_take (i := 1) (v := ?_) rfl (by kernel_rfl) (by kernel_rfl) (by kernel_rfl) (fun _ _ _ h => h) (Or.inl ⟨by rfl, ?_⟩) (by assumption) ?_
        rotate_left
        · intro w hSw
          (try dsimp only at hSw)
          go_simp
          all_goals with_reducible rfl
        try simp only [Act.put, List.getElem_toArray, List.getElem_cons_succ, List.getElem_cons_zero, List.setIfInBounds_toArray, List.set_cons_zero, List.set_cons_succ]
        refine wpAnyH_take (i := 2) (v := ?_) rfl (by kernel_rfl) (by kernel_rfl) (by kernel_rfl) (fun _ _ _ h => h) (Or.inl ⟨by rfl, ?_⟩) (by assumption) ?_
        rotate_left
        · intro w hSw
          (try dsimp only at hSw)
          go_simp
          all_goals with_reducible rfl
        try simp only [Act.put, List.getElem_toArray, List.getElem_cons_succ, List.getElem_cons_zero, List.setIfInBounds_toArray, List.set_cons_zero, List.set_cons_succ]
        refine take_first (i := 3) rfl (by kernel_rfl) (by kernel_rfl) (by kernel_rfl) (fun _ _ _ h => h) (GivesIf.call (by rfl) (fun w => ?_) (fun w hS => RD.out w hS)) (by assumption) ?_
        · go_simp
          all_goals with_reducible rfl
        try simp only [Act.put, List.getElem_toArray, List.getElem_cons_succ, List.getElem_cons_zero, List.setIfInBounds_toArray, List.set_cons_zero, List.set_cons_succ]
        refine wpAnyH_take (i := 4) (v := ?_) rfl (by kernel_rfl) (by kernel_rfl) (by kernel_rfl) (fun _ _ _ h => h) (Or.inl ⟨by rfl, ?_⟩) (by assumption) ?_
        rotate_left
        · intro w hSw
          (try dsimp only at hSw)
          go_simp
          all_goals with_reducible rfl
        try simp only [Act.put, List.getElem_toArray, List.getElem_cons_succ, List.getElem_cons_zero, List.setIfInBounds_toArray, List.set_cons_zero, List.set_cons_succ]
        refine wpAnyH_take (i := 5) (v := ?_) rfl (by kernel_rfl) (by kernel_rfl) (by kernel_rfl) (fun _ _ _ h => h) (Or.inl ⟨by rfl, ?_⟩) (by assumption) ?_
        rotate_left
        · intro w hSw
          (try dsimp only at hSw)
          go_simp
          all_goals with_reducible rfl
        try simp only [Act.put, List.getElem_toArray, List.getElem_cons_succ, List.getElem_cons_zero, List.setIfInBounds_toArray, List.set_cons_zero, List.set_cons_succ]
        refine wpAnyH_take (i := 6) (v := ?_) rfl (by kernel_rfl) (by kernel_rfl) (by kernel_rfl) (fun _ _ _ h => h) (Or.inl ⟨by rfl, ?_⟩) (by assumption) ?_
        rotate_left
        · intro w hSw
          (try dsimp only at hSw)
          go_simp
          all_goals with_reducible rfl
        try simp only [Act.put, List.getElem_toArray, List.getElem_cons_succ, List.getElem_cons_zero, List.setIfInBounds_toArray, List.set_cons_zero, List.set_cons_succ]
        refine take_first (i := 7) rfl (by kernel_rfl) (by kernel_rfl) (by kernel_rfl) (fun _ _ _ h => h) (GivesIf.call (by rfl) (fun w => ?_) (fun w hS => OF.out w hS)) (by assumption) ?_
        · go_simp
          all_goals with_reducible rfl
        try simp only [Act.put, List.getElem_toArray, List.getElem_cons_succ, List.getElem_cons_zero, List.setIfInBounds_toArray, List.set_cons_zero, List.set_cons_succ]
        refine wpAnyH_take (i := 8) (v := ?_) rfl (by kernel_rfl) (by kernel_rfl) (by kernel_rfl) (fun _ _ _ h => h) (Or.inl ⟨by rfl, ?_⟩) (by assumption) ?_
        rotate_left
        · intro w hSw
          (try dsimp only at hSw)
          go_simp
          all_goals with_reducible rfl
        try simp only [Act.put, List.getElem_toArray, List.getElem_cons_succ, List.getElem_cons_zero, List.setIfInBounds_toArray, List.set_cons_zero, List.set_cons_succ]
        refine wpAnyH_take (i := 9) (v := ?_) rfl (by kernel_rfl) (by kernel_rfl) (by kernel_rfl) (fun _ _ _ h => h) (Or.inl ⟨by rfl, ?_⟩) (by assumption) ?_
        rotate_left
        · intro w hSw
          (try dsimp only at hSw)
          go_simp
          all_goals with_reducible rfl
        try simp only [Act.put, List.getElem_toArray, List.getElem_cons_succ, List.getElem_cons_zero, List.setIfInBounds_toArray, List.set_cons_zero, List.set_cons_succ]
        refine wpAnyH_done (by kernel_rfl) ?_ _
        clear hHeld RD OF kcut kfrom s4
        have HB0 := Lib.hid (Below.drew (Below.refl w.heap.size w))
        go_wp2_with fail
        go_loopw [5, 6] (fun v i wr => ∃ (j p : Nat), j ≤ b0 ∧ p = 1 + 4 * j ∧ i = .int .i64 (p : Int) ∧ OwnV wr w.heap.size 2 v (i64V ((mList bs).take j)) ∧ Below w.heap.size w wr) (fun _ i _ => len - (intOf i).toNat)
        case atStart => exact ⟨0, 1, Nat.zero_le _, rfl, rfl, OwnV.nil_ _ _ _, HB0.out⟩
        case round =>
          obtain ⟨j, p, hj, hp, rfl, how, hB⟩ := hrel
          by_cases hlt : j < b0
          · obtain ⟨p4, hp4⟩ : ∃ p4, p4 = p + 4 := ⟨_, rfl⟩
            have hpm : p < m := by have := Hm.out; omega
            have hpl : p4 ≤ len := by have := Hlq.out; omega
            have v1 : IntKind.i64.wrap ((p : Int) + 4) = (p4 : Int) := by rw [IntKind.wrap_i64]; omega
            obtain ⟨aa, haa⟩ : ∃ aa, aa = fromA (some ⟨b, o, none⟩) cap p := ⟨_, rfl⟩
            obtain ⟨cc, hcc⟩ : ∃ cc, cc = cap - p := ⟨_, rfl⟩
            have kf : ∀ x, (Instr.slice 32 (.slice (some ⟨b, o, none⟩) len cap) (some (.int .i64 (p : Int))) (some (.int .i64 (p4 : Int))) none).run Tryz.prog x = .ok (.slice aa 4 cc) x := fun x => by
              have := run_cut_mid (P := Tryz.prog) 32 5 Tryz.underlying32 info_u8 (some ⟨b, o, none⟩) len cap p p4 (by omega) (by omega) x
              rw [this, haa, hcc, show p4 - p = 4 from by omega]
              rfl
            have SP : Sl w w.heap.size aa 4 cc ((bs.take p4).drop p) := by
              have := HS.out.mid (j := p) (k := p4) (by omega) (by omega)
              rw [← haa, ← hcc, show p4 - p = 4 from by omega] at this
              exact this
            have RP := Lib.hid (rread_any aa 4 cc ((bs.take p4).drop p) wr ((SP.below hB (Nat.le_refl _)).more hB.size) (by omega))
            have hvl : val ((bs.take p4).drop p) < 4294967296 := by
              have h1 := val_lt ((bs.take p4).drop p) SP.byte
              rw [SP.length] at h1
              simpa using h1
            have Hn : Hid (mNum bs j = ((val ((bs.take p4).drop p) : Nat) : Int)) := by show _ = _; unfold mNum; rw [← hp, hp4, List.drop_take, show p + 4 - p = 4 by omega]
            have Hst := Lib.hid (HSn.out j hlt)
            rw [Hn.out] at Hst
            generalize val ((bs.take p4).drop p) = z at *
            have v3 : IntKind.i64.wrap ((z : Nat) : Int) = (z : Int) := by rw [IntKind.wrap_i64]; omega
            have Hr := Lib.hid (And.intro how hB)
            have Hp := Lib.hid (And.intro hp hp4)
            have hlen9 : ((mList bs).take j).length ≤ 1000 := by rw [List.length_take, HLn.out]; omega
            clear SP how hB haa hcc hp hp4 Hn
            go_wp2_with fail
            refine RP.out.mono ?_
            rintro e w5 ⟨rfl, rfl⟩
            go_wp2_with (first
              | (at_builtin; refine wpList_append_ints rfl (.tmp 39) (.tmp 47) 23 rfl w.heap.size _ Tryz.underlying23 info_i64m _ ((mList bs).take j) rfl (Hr.out.1.alloc _) _ (some ⟨wr.heap.size, 0, none⟩) 1 1 [(z : Int)] rfl (lit_row wr [(z : Int)] (by simp [maxLen])) rfl (fun h => by cases h) (by omega) (by have := Hr.out.2.size; simp; omega) ?_; intro v6 w6 ho6 hg6 hat6; have hB6 : Below w.heap.size w w6 := (Hr.out.2.alloc Hr.out.2.size _).grown hg6 (by have := Hr.out.2.size; simp; omega) (fun k hk => (Hr.out.1.at_base hk).1); have H6 := Lib.hid (And.intro ho6 hB6); clear ho6 hB6 hg6 hat6)
              | fail)
            go_roundw
            case rel => exact ⟨j + 1, p4, by omega, by have := Hp.out; omega, rfl, by rw [Hst.out]; exact H6.out.1, H6.out.2⟩
            case measure => have := Hp.out; simp [intOf]; omega
          · have hjb : j = b0 := by omega
            rw [List.take_of_length_le (by rw [HLn.out]; omega)] at how
            obtain ⟨av, cv, rfl, hrv, _⟩ := how.out
            have hpm : ¬ p < m := by have := Hm.out; omega
            have hpm2 : ¬ (p : Int) < (m : Int) := by omega
            have RT := rright5_any (mList bs) av _ cv wr hrv rfl
            have Hr := Lib.hid (And.intro how hB)
            obtain ⟨ll, hll⟩ : ∃ ll, ll = (mList bs).length := ⟨_, rfl⟩
            rw [← hll] at RT Hr ⊢
            have RT := Lib.hid RT
            clear how hB hrv hjb hp hll
            generalize hok : mOk (mList bs) = ok at *
            have Hok := Lib.hid hok
            clear hok
            go_wp2_with fail
            refine RT.out.mono ?_
            rintro e w6 ⟨rfl, hb6⟩
            have HB6 := Lib.hid (And.intro (Hr.out.2.trans (hb6.mono Hr.out.2.size)) (grown_of_below hb6 none))
            clear hb6
            cases ok
            · go_wp2
              go_ret2
              exact ⟨.slice none 0 0, by rw [hg.out, if_neg (by simp)]; rfl, by rw [hg.out, if_neg (by simp)]; exact OwnV.nil_ _ _ _, HB6.out.1⟩
            · go_wp2
              go_ret2
              exact ⟨_, by rw [hg.out, if_pos trivial]; rfl, by rw [hg.out, if_pos trivial]; exact Hr.out.1.keptV HB6.out.2, HB6.out.1⟩
      · have hxy2 : ((x4 : Int) == (y4 : Int)) = false := by simp; omega
        have hxy3 : ((x4 : Int) != (y4 : Int)) = true := by simp; omega
        have hg : Hid (mGet bs = ([], 14)) := by
          show _ = _
          rw [HG.out, if_neg (by have := Hlq.out; omega), if_pos hxy]
        go_enter Tryz.func50, Tryz.ntmps50
        go_upto_region 4 with fail
        refine wp_region_held_drew (S := fun x => Below w.heap.size w x) (by kernel_rfl) (Below.drew (Below.refl _ _)) (fun hHeld => ?_)
        refine wpAnyH_take (i := 0) (v := ?_) rfl (by kernel_rfl) (by kernel_rfl) (by kernel_rfl) (fun _ _ _ h => h) (Or.inl ⟨by rfl, ?_⟩) (by assumption) ?_
        rotate_left
        · intro w hSw
          (try dsimp only at hSw)
          go_simp
          all_goals with_reducible rfl
        try simp only [Act.put, List.getElem_toArray, List.getElem_cons_succ, List.getElem_cons_zero, List.setIfInBounds_toArray, List.set_cons_zero, List.set_cons_succ]
        refine wpAnyH_take (i := 1) (v := ?_) rfl (by kernel_rfl) (by kernel_rfl) (by kernel_rfl) (fun _ _ _ h => h) (Or.inl ⟨by rfl, ?_⟩) (by assumption) ?_
        rotate_left
        · intro w hSw
          (try dsimp only at hSw)
          go_simp
          all_goals with_reducible rfl
        try simp only [Act.put, List.getElem_toArray, List.getElem_cons_succ, List.getElem_cons_zero, List.setIfInBounds_toArray, List.set_cons_zero, List.set_cons_succ]
        refine wpAnyH_take (i := 2) (v := ?_) rfl (by kernel_rfl) (by kernel_rfl) (by kernel_rfl) (fun _ _ _ h => h) (Or.inl ⟨by rfl, ?_⟩) (by assumption) ?_
        rotate_left
        · intro w hSw
          (try dsimp only at hSw)
          go_simp
          all_goals with_reducible rfl
        try simp only [Act.put, List.getElem_toArray, List.getElem_cons_succ, List.getElem_cons_zero, List.setIfInBounds_toArray, List.set_cons_zero, List.set_cons_succ]
        refine take_first (i := 3) rfl (by kernel_rfl) (by kernel_rfl) (by kernel_rfl) (fun _ _ _ h => h) (GivesIf.call (by rfl) (fun w => ?_) (fun w hS => RD.out w hS)) (by assumption) ?_
        · go_simp
          all_goals with_reducible rfl
        try simp only [Act.put, List.getElem_toArray, List.getElem_cons_succ, List.getElem_cons_zero, List.setIfInBounds_toArray, List.set_cons_zero, List.set_cons_succ]
        refine wpAnyH_take (i := 4) (v := ?_) rfl (by kernel_rfl) (by kernel_rfl) (by kernel_rfl) (fun _ _ _ h => h) (Or.inl ⟨by rfl, ?_⟩) (by assumption) ?_
        rotate_left
        · intro w hSw
          (try dsimp only at hSw)
          go_simp
          all_goals with_reducible rfl
        try simp only [Act.put, List.getElem_toArray, List.getElem_cons_succ, List.getElem_cons_zero, List.setIfInBounds_toArray, List.set_cons_zero, List.set_cons_succ]
        refine wpAnyH_take (i := 5) (v := ?_) rfl (by kernel_rfl) (by kernel_rfl) (by kernel_rfl) (fun _ _ _ h => h) (Or.inl ⟨by rfl, ?_⟩) (by assumption) ?_
        rotate_left
        · intro w hSw
          (try dsimp only at hSw)
          go_simp
          all_goals with_reducible rfl
        try simp only [Act.put, List.getElem_toArray, List.getElem_cons_succ, List.getElem_cons_zero, List.setIfInBounds_toArray, List.set_cons_zero, List.set_cons_succ]
        refine wpAnyH_take (i := 6) (v := ?_) rfl (by kernel_rfl) (by kernel_rfl) (by kernel_rfl) (fun _ _ _ h => h) (Or.inl ⟨by rfl, ?_⟩) (by assumption) ?_
        rotate_left
        · intro w hSw
          (try dsimp only at hSw)
          go_simp
          all_goals with_reducible rfl
        try simp only [Act.put, List.getElem_toArray, List.getElem_cons_succ, List.getElem_cons_zero, List.setIfInBounds_toArray, List.set_cons_zero, List.set_cons_succ]
        refine take_first (i := 7) rfl (by kernel_rfl) (by kernel_rfl) (by kernel_rfl) (fun _ _ _ h => h) (GivesIf.call (by rfl) (fun w => ?_) (fun w hS => OF.out w hS)) (by assumption) ?_
        · go_simp
          all_goals with_reducible rfl
        try simp only [Act.put, List.getElem_toArray, List.getElem_cons_succ, List.getElem_cons_zero, List.setIfInBounds_toArray, List.set_cons_zero, List.set_cons_succ]
        refine wpAnyH_take (i := 8) (v := ?_) rfl (by kernel_rfl) (by kernel_rfl) (by kernel_rfl) (fun _ _ _ h => h) (Or.inl ⟨by rfl, ?_⟩) (by assumption) ?_
        rotate_left
        · intro w hSw
          (try dsimp only at hSw)
          go_simp
          all_goals with_reducible rfl
        try simp only [Act.put, List.getElem_toArray, List.getElem_cons_succ, List.getElem_cons_zero, List.setIfInBounds_toArray, List.set_cons_zero, List.set_cons_succ]
        refine wpAnyH_take (i := 9) (v := ?_) rfl (by kernel_rfl) (by kernel_rfl) (by kernel_rfl) (fun _ _ _ h => h) (Or.inl ⟨by rfl, ?_⟩) (by assumption) ?_
        rotate_left
        · intro w hSw
          (try dsimp only at hSw)
          go_simp
          all_goals with_reducible rfl
        try simp only [Act.put, List.getElem_toArray, List.getElem_cons_succ, List.getElem_cons_zero, List.setIfInBounds_toArray, List.set_cons_zero, List.set_cons_succ]
        refine wpAnyH_done (by kernel_rfl) ?_ _
        clear hHeld
        go_wp2
        go_ret2
        exact ⟨.slice none 0 0, by rw [hg.out]; rfl, by rw [hg.out]; exact OwnV.nil_ _ _ _, Below.drew (Below.refl _ _)⟩
    · have hlq2 : ((len : Int) == (q : Int)) = false := by simp; omega
      have hlq3 : ((len : Int) != (q : Int)) = true := by simp; omega
      have hg : Hid (mGet bs = ([], 12)) := by show _ = _; rw [HG.out, if_pos (.inr (by have := Hq.out; omega))]
      clear hq
      go_enter Tryz.func50, Tryz.ntmps50
      go_wp2
      go_ret2
      exact ⟨.slice none 0 0, by rw [hg.out]; rfl, by rw [hg.out]; exact OwnV.nil_ _ _ _, Below.refl _ _⟩
end Go.Proofs.YtohiheohndmccaaGreat

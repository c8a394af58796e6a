/- Contracts of the program's manifest: Get. -/
import Derived.Test.YtkklofchgmbdnaaMfB
namespace Go.Proofs.Ytkklofchgmbdnaa
open Go.RowKit Go.Sort
open Crc Frm
attribute [local go_sem] Oper.semAt_some

/-- Number j of bytes. -/
def mNum (bs : List Nat) (j : Nat) : Int := ((val ((bs.drop (1 + 4 * j)).take 4) : Nat) : Int)
def mList (bs : List Nat) : List Int := (List.range (bs.getD 0 0)).map (mNum bs)
/-- The list of bytes, and the error. -/
def mGet (bs : List Nat) : List Int × Nat :=
  if bs.length = 0 ∨ bs.length ≠ 5 + 4 * bs.getD 0 0 then ([], 12)
  else if val (bs.drop (bs.length - 4)) ≠ more 0 (bs.take (bs.length - 4)) then ([], 14)
  else if mOk (mList bs) = true then (mList bs, 0) else ([], 12)
abbrev i64V (l : List Int) : List Value := l.map fun x => .int .i64 x
theorem info_i64m : (Try.prog.info? 2).map (fun i => (i.zero, i.size, i.bytes)) = some (some (.int .i64 0), 1, 8) := by kernel_rfl
theorem row_own {w : World} {base : Nat} {e : TypeId} {g n c : Nat} {l : List Int} (h : OwnV w base e (.slice (some ⟨g, 0, none⟩) n c) (i64V l)) : Row w w.heap.size (some ⟨g, 0, none⟩) n c 1 (intsC l) := by
  have hl := h.len
  have hb := h.base_
  have hcc : n ≤ c ∧ c ≤ maxLen := by
    rcases h.2 with ⟨h', _⟩ | ⟨g', cap', cur, h', _, _, h1, h2, _⟩
    · cases h'
    · injection h' with _ h4 h5
      subst h5
      rw [hl]
      exact ⟨h1, h2⟩
  refine ⟨hcc.1, hcc.2, fun _ => ⟨g, 0, rfl, hb.2, fun j hj => ?_⟩⟩
  have hj' : j < l.length := by rw [List.length_map] at hl; omega
  rw [Nat.zero_add, (h.cell (k := j) (u := .int .i64 l[j]) (by rw [List.getElem?_map, List.getElem?_eq_getElem hj']; rfl)).1]
  simp only [intsC, List.getD_eq_getElem?_getD, List.getElem?_eq_getElem hj']
  rfl

set_option linter.unusedSimpArgs false in
set_option maxRecDepth 100000 in
set_option maxHeartbeats 3200000 in
theorem mget_any (a : Option Addr) (len cap : Nat) (bs : List Nat) (w : World) (hs : Sl w w.heap.size a len cap bs) (hl : len ≤ 2000000) :
    Calls Try.prog 25 #[.slice a len cap] w fun e w' => ∃ v, e = .returned (.tuple #[v, .int .i64 (((mGet bs).2 : Nat) : Int)]) ∧ OwnV w' w.heap.size 2 v (i64V (mGet bs).1) ∧ Below w.heap.size w w' := by
  have hlen := hs.length
  have hcap := hs.le
  by_cases h0 : len = 0
  · subst h0
    have hg : mGet bs = ([], 12) := by unfold mGet; rw [if_pos (.inl hlen)]
    rw [hg]
    clear hs hlen hg
    go_enter Try.func25, Try.ntmps25
    go_wp2
    go_ret2
    exact ⟨_, rfl, OwnV.nil_ _ _ _, Below.refl _ _⟩
  · obtain ⟨b, o, rfl, hb, hc⟩ := hs.at_ (by omega)
    have c0 : w.cell? ⟨b, o, none⟩ = some (.int .u8 ((bs.getD 0 0 : Nat) : Int)) := hc 0 (by omega)
    have l0 : bs.getD 0 0 < 256 := by rw [List.getD_eq_getElem?_getD, List.getElem?_eq_getElem (by omega)]; exact hs.byte _ (List.getElem_mem _)
    have n0 : 0 < len := by omega
    have z0 : ((len : Int) == 0) = false := by simp; omega
    have z1 : ¬ ((len : Int) = 0) := by omega
    have HG : Hid (mGet bs = if len = 0 ∨ len ≠ 5 + 4 * bs.getD 0 0 then ([], 12) else if val (bs.drop (len - 4)) ≠ more 0 (bs.take (len - 4)) then ([], 14) else if mOk (mList bs) = true then (mList bs, 0) else ([], 12)) := by show _ = _; unfold mGet; rw [hlen]
    have HLs : Hid (mList bs = (List.range (bs.getD 0 0)).map (mNum bs)) := rfl
    have HS := Lib.hid hs
    generalize bs.getD 0 0 = b0 at *
    have w0 : IntKind.i64.wrap (b0 : Int) = (b0 : Int) := by rw [IntKind.wrap_i64]; omega
    have SZ := Lib.hid (msize_any b0 (by omega) w)
    obtain ⟨q, hq⟩ : ∃ q, q = 5 + 4 * b0 := ⟨_, rfl⟩
    rw [← hq] at SZ
    have Hq := Lib.hid hq
    clear hs hc hlen
    by_cases hlq : len = q
    · subst hlq
      have Hlq := Lib.hid hq
      clear hq
      obtain ⟨m, hm⟩ : ∃ m, m = len - 4 := ⟨_, rfl⟩
      have hm4 : m + 4 = len := by have := Hlq.out; omega
      have s4 : IntKind.i64.wrap ((len : Int) - 4) = (m : Int) := by rw [IntKind.wrap_i64]; omega
      obtain ⟨a4, ha4⟩ : ∃ a4, a4 = fromA (some ⟨b, o, none⟩) cap m := ⟨_, rfl⟩
      have kcut : ∀ x, (Instr.slice 31 (.slice (some ⟨b, o, none⟩) len cap) none (some (.int .i64 (m : Int))) none).run Try.prog x = .ok (.slice (some ⟨b, o, none⟩) m cap) x := run_cut_to (P := Try.prog) 31 5 Try.underlying31 info_u8 _ len cap m (by omega)
      obtain ⟨c4, hc4⟩ : ∃ c4, c4 = cap - m := ⟨_, rfl⟩
      have kfrom : ∀ x, (Instr.slice 31 (.slice (some ⟨b, o, none⟩) len cap) (some (.int .i64 (m : Int))) none none).run Try.prog x = .ok (.slice a4 4 c4) x := fun x => by
        have := run_cut_from (P := Try.prog) 31 5 Try.underlying31 info_u8 (some ⟨b, o, none⟩) len cap m (by omega) x
        rw [this, ha4, hc4, show len - m = 4 from by omega]
        rfl
      have S4 : Sl w w.heap.size a4 4 c4 (bs.drop m) := by
        have := HS.out.from_ (k := m) (by omega)
        rw [← ha4, ← hc4, show len - m = 4 from by omega] at this
        exact this
      have SM : Sl w w.heap.size (some ⟨b, o, none⟩) m cap (bs.take m) := HS.out.take (by omega)
      have RD := Lib.hid (fun (x : World) (hx : Below w.heap.size w x) => mread_any a4 4 c4 (bs.drop m) x ((S4.below hx (Nat.le_refl _)).more hx.size) (Nat.le_refl _))
      have OF := Lib.hid (fun (x : World) (hx : Below w.heap.size w x) => of_from (B := w.heap.size) (Nat.le_refl _) SM x hx)
      have ht4 : (bs.drop m).take 4 = bs.drop m := by rw [List.take_of_length_le (by have := S4.length; omega)]
      rw [ht4] at RD
      rw [← hm] at HG
      have hv4 : val (bs.drop m) < 4294967296 := by
        have := val_lt (bs.drop m) S4.byte
        rw [S4.length] at this
        simpa using this
      have hmo := more_lt 0 (bs.take m)
      generalize val (bs.drop m) = x4 at *
      generalize more 0 (bs.take m) = y4 at *
      clear S4 SM ht4 ha4 hc4 hm
      go_enter Try.func25, Try.ntmps25
      go_wp2_with fail
      refine SZ.out.mono ?_
      rintro e w1 ⟨rfl, rfl⟩
      go_wp2_with fail
      refine wp_region_held_drew (S := fun x => x.cell? ⟨b, o, none⟩ = some (.int .u8 (b0 : Int))) (by kernel_rfl) c0 (fun hHeld => ?_)
      refine wpAnyH_take (i := 0) (v := ?_) rfl (by kernel_rfl) (by kernel_rfl) (by kernel_rfl) (fun _ _ _ h => h) (Or.inl ⟨by rfl, ?_⟩) (by assumption) ?_
      rotate_left
      · intro w hSw
        (try dsimp only at hSw)
        go_simp
        all_goals with_reducible rfl
      try simp only [Act.put, List.getElem_toArray, List.getElem_cons_succ, List.getElem_cons_zero, List.setIfInBounds_toArray, List.set_cons_zero, List.set_cons_succ]
      refine wpAnyH_take (i := 1) (v := ?_) rfl (by kernel_rfl) (by kernel_rfl) (by kernel_rfl) (fun _ _ _ h => h) (Or.inl ⟨by rfl, ?_⟩) (by assumption) ?_
      rotate_left
      · intro w hSw
        (try dsimp only at hSw)
        go_simp
        all_goals with_reducible rfl
      try simp only [Act.put, List.getElem_toArray, List.getElem_cons_succ, List.getElem_cons_zero, List.setIfInBounds_toArray, List.set_cons_zero, List.set_cons_succ]
      refine wpAnyH_take (i := 2) (v := ?_) rfl (by kernel_rfl) (by kernel_rfl) (by kernel_rfl) (fun _ _ _ h => h) (Or.inl ⟨by rfl, ?_⟩) (by assumption) ?_
      rotate_left
      · intro w hSw
        (try dsimp only at hSw)
        go_simp
        all_goals with_reducible rfl
      try simp only [Act.put, List.getElem_toArray, List.getElem_cons_succ, List.getElem_cons_zero, List.setIfInBounds_toArray, List.set_cons_zero, List.set_cons_succ]
      refine wpAnyH_take (i := 3) (v := ?_) rfl (by kernel_rfl) (by kernel_rfl) (by kernel_rfl) (fun _ _ _ h => h) (Or.inl ⟨by rfl, ?_⟩) (by assumption) ?_
      rotate_left
      · intro w hSw
        (try dsimp only at hSw)
        go_simp
        all_goals with_reducible rfl
      try simp only [Act.put, List.getElem_toArray, List.getElem_cons_succ, List.getElem_cons_zero, List.setIfInBounds_toArray, List.set_cons_zero, List.set_cons_succ]
      refine wpAnyH_take (i := 4) (v := ?_) rfl (by kernel_rfl) (by kernel_rfl) (by kernel_rfl) (fun _ _ _ h => h) (Or.inl ⟨by rfl, ?_⟩) (by assumption) ?_
      rotate_left
      · intro w hSw
        (try dsimp only at hSw)
        go_simp
        all_goals with_reducible rfl
      try simp only [Act.put, List.getElem_toArray, List.getElem_cons_succ, List.getElem_cons_zero, List.setIfInBounds_toArray, List.set_cons_zero, List.set_cons_succ]
      refine wpAnyH_take (i := 5) (v := ?_) rfl (by kernel_rfl) (by kernel_rfl) (by kernel_rfl) (fun _ _ _ h => h) (Or.inl ⟨by rfl, ?_⟩) (by assumption) ?_
      rotate_left
      · intro w hSw
        (try dsimp only at hSw)
        go_simp
        all_goals with_reducible rfl
      try simp only [Act.put, List.getElem_toArray, List.getElem_cons_succ, List.getElem_cons_zero, List.setIfInBounds_toArray, List.set_cons_zero, List.set_cons_succ]
      refine wpAnyH_take (i := 6) (v := ?_) rfl (by kernel_rfl) (by kernel_rfl) (by kernel_rfl) (fun _ _ _ h => h) (Or.inl ⟨by rfl, ?_⟩) (by assumption) ?_
      rotate_left
      · intro w hSw
        (try dsimp only at hSw)
        go_simp
        all_goals with_reducible rfl
      try simp only [Act.put, List.getElem_toArray, List.getElem_cons_succ, List.getElem_cons_zero, List.setIfInBounds_toArray, List.set_cons_zero, List.set_cons_succ]
      refine wpAnyH_take (i := 7) (v := ?_) rfl (by kernel_rfl) (by kernel_rfl) (by kernel_rfl) (fun _ _ _ h => h) (Or.inl ⟨by rfl, ?_⟩) (by assumption) ?_
      rotate_left
      · intro w hSw
        (try dsimp only at hSw)
        go_simp
        all_goals with_reducible rfl
      try simp only [Act.put, List.getElem_toArray, List.getElem_cons_succ, List.getElem_cons_zero, List.setIfInBounds_toArray, List.set_cons_zero, List.set_cons_succ]
      refine wpAnyH_take (i := 8) (v := ?_) rfl (by kernel_rfl) (by kernel_rfl) (by kernel_rfl) (fun _ _ _ h => h) (Or.inl ⟨by rfl, ?_⟩) (by assumption) ?_
      rotate_left
      · intro w hSw
        (try dsimp only at hSw)
        go_simp
        all_goals with_reducible rfl
      try simp only [Act.put, List.getElem_toArray, List.getElem_cons_succ, List.getElem_cons_zero, List.setIfInBounds_toArray, List.set_cons_zero, List.set_cons_succ]
      refine wpAnyH_take (i := 9) (v := ?_) rfl (by kernel_rfl) (by kernel_rfl) (by kernel_rfl) (fun _ _ _ h => h) (Or.inl ⟨by rfl, ?_⟩) (by assumption) ?_
      rotate_left
      · intro w hSw
        (try dsimp only at hSw)
        go_simp
        all_goals with_reducible rfl
      try simp only [Act.put, List.getElem_toArray, List.getElem_cons_succ, List.getElem_cons_zero, List.setIfInBounds_toArray, List.set_cons_zero, List.set_cons_succ]
      refine wpAnyH_take (i := 10) (v := ?_) rfl (by kernel_rfl) (by kernel_rfl) (by kernel_rfl) (fun _ _ _ h => h) (Or.inl ⟨by rfl, ?_⟩) (by assumption) ?_
      rotate_left
      · intro w hSw
        (try dsimp only at hSw)
        go_simp
        all_goals with_reducible rfl
      try simp only [Act.put, List.getElem_toArray, List.getElem_cons_succ, List.getElem_cons_zero, List.setIfInBounds_toArray, List.set_cons_zero, List.set_cons_succ]
      refine wpAnyH_take (i := 11) (v := ?_) rfl (by kernel_rfl) (by kernel_rfl) (by kernel_rfl) (fun _ _ _ h => h) (Or.inl ⟨by rfl, ?_⟩) (by assumption) ?_
      rotate_left
      · intro w hSw
        (try dsimp only at hSw)
        go_simp
        all_goals with_reducible rfl
      try simp only [Act.put, List.getElem_toArray, List.getElem_cons_succ, List.getElem_cons_zero, List.setIfInBounds_toArray, List.set_cons_zero, List.set_cons_succ]
      refine wpAnyH_done (by kernel_rfl) ?_ _
      clear hHeld
      have hBd : Below w.heap.size w w.drew := Below.drew (Below.refl _ _)
      have Hd := Lib.hid hBd
      go_wp2_with fail
      refine (RD.out _ hBd).mono ?_
      rintro e w2 ⟨rfl, hb2⟩
      have hB2 := hBd.trans (hb2.mono hBd.size)
      have HB2 := Lib.hid hB2
      clear hb2 hBd hB2 kcut kfrom s4
      go_wp2_with fail
      refine (OF.out _ HB2.out).mono ?_
      rintro e w3 ⟨rfl, hb3⟩
      have c3 := (hb3.cell (p := ⟨b, o, none⟩) hb).trans c0
      have HB3 := Lib.hid hb3
      clear hb3 HB2 RD OF SZ c0
      by_cases hxy : x4 = y4
      · subst hxy
        have hg : Hid (mGet bs = if mOk (mList bs) = true then (mList bs, 0) else ([], 12)) := by
          show _ = _
          rw [HG.out, if_neg (by have := Hlq.out; omega), if_neg (by simp)]
        obtain ⟨i8, hi8, hz0, hz1, hz2⟩ := info_parts info_i64m
        clear HG hv4 hmo
        go_wp2_with (first
          | (at_make; refine wpList_make_full _ rfl (.tmp 38) (.tmp 38) 44 rfl w.heap.size 2 i8 (.int .i64 0) 1 Try.underlying44 hi8 hz0 hz1 .u8 .u8 _ _ b0 rfl rfl rfl rfl (by rw [hz2]; omega) (by unfold maxLen; omega) HB3.out.size ?_; intro w4 hown hg4; have ho4 := OwnV.made rfl hown; have hB4 : Below w.heap.size w w4 := HB3.out.grown hg4 HB3.out.size (fun k hk => by cases hk); have H4 := Lib.hid (And.intro ho4 hB4); clear hown hg4 ho4 hB4)
          | fail)
        obtain ⟨g, hgg⟩ : ∃ g, g = w3.heap.size := ⟨_, rfl⟩
        rw [← hgg] at H4 ⊢
        have hgw : w.heap.size ≤ g := by have := HB3.out.size; omega
        clear hgg
        go_loopw [7, 42] (fun _ i wr => ∃ (k : Nat) (us : List Value), k ≤ b0 ∧ i = .int .i64 (k : Int) ∧ us.length = b0 ∧ (∀ j, j < k → us[j]? = some (.int .i64 (mNum bs j))) ∧
          OwnV wr w.heap.size 2 (.slice (some ⟨g, 0, none⟩) b0 b0) us ∧ Below w.heap.size w wr) (fun _ i _ => b0 - (intOf i).toNat)
        case atStart => exact ⟨0, _, Nat.zero_le _, rfl, List.length_replicate, fun j hj => by omega, H4.out.1, H4.out.2⟩
        case round =>
          obtain ⟨k, us, hk, rfl, hul, huj, how, hB⟩ := hrel
          by_cases hlt : k < b0
          · have hkc := OwnV.cell how (k := k) (List.getElem?_eq_getElem (by omega))
            obtain ⟨p, hp⟩ : ∃ p, p = 1 + 4 * k := ⟨_, rfl⟩
            have hpl : p + 4 ≤ len := by have := Hlq.out; omega
            have v1 : IntKind.i64.wrap ((k : Int) * 4) = (k : Int) * 4 := by rw [IntKind.wrap_i64]; omega
            have v2 : IntKind.i64.wrap (1 + (k : Int) * 4) = (p : Int) := by rw [IntKind.wrap_i64]; omega
            obtain ⟨aa, haa⟩ : ∃ aa, aa = fromA (some ⟨b, o, none⟩) cap p := ⟨_, rfl⟩
            obtain ⟨nn, hnn⟩ : ∃ nn, nn = len - p := ⟨_, rfl⟩
            obtain ⟨cc, hcc⟩ : ∃ cc, cc = cap - p := ⟨_, rfl⟩
            have kf : ∀ x, (Instr.slice 31 (.slice (some ⟨b, o, none⟩) len cap) (some (.int .i64 (p : Int))) none none).run Try.prog x = .ok (.slice aa nn cc) x := fun x => by
              have := run_cut_from (P := Try.prog) 31 5 Try.underlying31 info_u8 (some ⟨b, o, none⟩) len cap p (by omega) x
              rw [this, haa, hnn, hcc]
              rfl
            have SP : Sl w w.heap.size aa nn cc (bs.drop p) := by
              have := HS.out.from_ (k := p) (by omega)
              rw [← haa, ← hnn, ← hcc] at this
              exact this
            have RP := Lib.hid (mread_any aa nn cc (bs.drop p) wr ((SP.below hB (Nat.le_refl _)).more hB.size) (by omega))
            have hvl : val ((bs.drop p).take 4) < 4294967296 := by
              have h1 := val_lt ((bs.drop p).take 4) (fun c hc => SP.byte c (List.mem_of_mem_take hc))
              have h2 : ((bs.drop p).take 4).length = 4 := by rw [List.length_take, SP.length]; omega
              rw [h2] at h1
              simpa using h1
            have Hn : Hid (mNum bs k = ((val ((bs.drop p).take 4) : Nat) : Int)) := by show _ = _; unfold mNum; rw [hp]
            generalize val ((bs.drop p).take 4) = z at *
            have v3 : IntKind.i64.wrap ((z : Nat) : Int) = (z : Int) := by rw [IntKind.wrap_i64]; omega
            have Hr := Lib.hid (And.intro huj (And.intro how hB))
            clear SP huj how hB haa hnn hcc hp
            go_wp2_with fail
            refine RP.out.mono ?_
            rintro e w5 ⟨rfl, hb5⟩
            obtain ⟨huj, how, hB⟩ := Hr.out
            have how5 := how.kept (grown_of_below hb5 none) (by simp)
            have hkc5 := OwnV.cell how5 (k := k) (List.getElem?_eq_getElem (by omega))
            have hB5 := hB.trans (hb5.mono hB.size)
            have H5 := Lib.hid (And.intro huj (And.intro how5 hB5))
            clear huj how hB how5 hB5 hb5 Hr hkc RP
            go_wp2
            obtain ⟨huj, how5, hB5⟩ := H5.out
            refine ⟨⟨k + 1, us.set k (.int .i64 (z : Int)), by omega, by go_num, by rw [List.length_set]; exact hul, ?_, how5.set_ k _, hB5.setCell (p := ⟨g, k, none⟩) hgw _⟩, by simp [intOf]; omega⟩
            intro j hj
            rw [List.getElem?_set]
            by_cases e : k = j
            · subst e
              rw [if_pos rfl, if_pos (by omega), Hn.out]
            · rw [if_neg e]
              exact huj j (by omega)
          · have hkb : k = b0 := by omega
            subst hkb
            have hus : us = i64V (mList bs) := by
              rw [HLs.out]
              apply List.ext_getElem?
              intro j
              by_cases hj : j < k
              · rw [huj j hj, List.getElem?_map, List.getElem?_map, List.getElem?_range hj]
                rfl
              · rw [List.getElem?_eq_none (by omega), List.getElem?_eq_none (by simp; omega)]
            subst hus
            have RT := Lib.hid (mright_any (mList bs) (some ⟨g, 0, none⟩) k k wr (row_own how) (by rw [List.length_map] at hul; exact hul))
            have Hr := Lib.hid (And.intro how hB)
            clear huj how hB hul HLs
            generalize hok : mOk (mList bs) = ok at *
            have Hok := Lib.hid hok
            clear hok
            go_wp2_with fail
            refine RT.out.mono ?_
            rintro e w6 ⟨rfl, rfl⟩
            cases ok
            · go_wp2
              go_ret2
              exact ⟨.slice none 0 0, by rw [hg.out, if_neg (by simp)]; rfl, by rw [hg.out, if_neg (by simp)]; exact OwnV.nil_ _ _ _, Hr.out.2⟩
            · go_wp2
              go_ret2
              exact ⟨.slice (some ⟨g, 0, none⟩) k k, by rw [hg.out, if_pos trivial]; rfl, by rw [hg.out, if_pos trivial]; exact Hr.out.1, Hr.out.2⟩
      · have hxy2 : ((x4 : Int) == (y4 : Int)) = false := by simp; omega
        have hg : Hid (mGet bs = ([], 14)) := by
          show _ = _
          rw [HG.out, if_neg (by have := Hlq.out; omega), if_pos hxy]
        go_wp2
        go_ret2
        exact ⟨.slice none 0 0, by rw [hg.out]; rfl, by rw [hg.out]; exact OwnV.nil_ _ _ _, HB3.out⟩
    · have hlq2 : ((len : Int) == (q : Int)) = false := by simp; omega
      have hg : Hid (mGet bs = ([], 12)) := by show _ = _; rw [HG.out, if_pos (.inr (by have := Hq.out; omega))]
      clear hq
      go_enter Try.func25, Try.ntmps25
      go_wp2_with fail
      refine SZ.out.mono ?_
      rintro e w1 ⟨rfl, rfl⟩
      go_wp2
      go_ret2
      exact ⟨.slice none 0 0, by rw [hg.out]; rfl, by rw [hg.out]; exact OwnV.nil_ _ _ _, Below.refl _ _⟩
end Go.Proofs.Ytkklofchgmbdnaa

/- Right: a place, the zero policy. -/
import Derived.Test.YtnpakjdgcmbcnaaEvG
namespace Go.Proofs.Ytnpakjdgcmbcnaa
open Go.RowKit
open Wir Evn
attribute [local go_sem] Oper.semAt_some

theorem bel1 {w0 w : World} (h : Below w0.heap.size w0 w) (o : Obj) : Below w0.heap.size w0 (w.alloc o) := h.alloc h.size o
theorem win_yes {a b n : Int} (h : a ≤ n ∧ n ≤ b) : winR a b [n] = true := by simp only [winR, List.all_cons, List.all_nil, Bool.and_true, decide_eq_true_eq]; exact h
theorem win_no {a b n : Int} (h : ¬ (a ≤ n ∧ n ≤ b)) : winR a b [n] = false := by simp only [winR, List.all_cons, List.all_nil, Bool.and_true, decide_eq_false_iff_not]; exact h
set_option linter.unusedSimpArgs false in
set_option maxRecDepth 100000 in
set_option maxHeartbeats 6400000 in
theorem place_any (n : Int) (w : World) :
    Calls Try.prog 51 #[.int .i64 n] w fun e w' => e = .returned (.bool (placeR n)) ∧ Below w.heap.size w w' := by
  go_enter Try.func51, Try.ntmps51
  go_wp2_with fail
  refine (withinI_new 0 3 (l := [n]) rfl rfl (by simp)).mono ?_
  rintro e w1 ⟨rfl, h1⟩
  have H := Lib.hid h1
  clear h1
  go_wp2
  go_ret
  exact ⟨ret_bool (by simp [winR, placeR]), H.out⟩
set_option linter.unusedSimpArgs false in
set_option maxRecDepth 100000 in
set_option maxHeartbeats 6400000 in
theorem zero_any (p : Pl) (a1 a2 : Option Addr) (c1 c2 : Nat) (w : World) :
    Calls Try.prog 37 #[plV p a1 a2 c1 c2] w fun e w' => e = .returned (.bool (zeroR p)) ∧ Below w.heap.size w w' := by
  obtain ⟨kind, target, bands, kp, ki, kd, period, slots⟩ := p
  unfold plV
  simp only
  have HZ : Hid (zeroR ⟨kind, target, bands, kp, ki, kd, period, slots⟩ = decide (kind = 0 ∧ (target = 0 ∧ kp = 0 ∧ ki = 0 ∧ kd = 0 ∧ period = 0) ∧ bands.length = 0 ∧ slots.length = 0)) := by
    show _ = _
    unfold zeroR
    simp only [and_assoc]
  by_cases h1 : kind = 0
  · subst h1
    go_enter Try.func37, Try.ntmps37
    go_wp2_with fail
    refine (within64_now 0 0 (l := [target, kp, ki, kd, period]) (by simp) rfl rfl (by simp)).mono ?_
    rintro e w1 ⟨rfl, rfl⟩
    cases hb : winR 0 0 [target, kp, ki, kd, period]
    · have HB := Lib.hid hb
      clear hb
      go_wp2
      go_ret
      refine ⟨ret_bool ?_, ((Below.refl _ _).alloc (Nat.le_refl _) _).alloc (by simp) _⟩
      rw [HZ.out]
      have := HB.out
      simp only [winR, List.all_cons, List.all_nil, Bool.and_true, Bool.and_eq_false_iff, decide_eq_false_iff_not] at this
      symm
      rw [decide_eq_false_iff_not]
      omega
    · have HB := Lib.hid hb
      clear hb
      by_cases h2 : bands.length = 0
      · have d2 : ((bands.length : Int) == 0) = true := by simp [h2]
        by_cases h3 : slots.length = 0
        · have d3 : ((slots.length : Int) == 0) = true := by simp [h3]
          have HH := Lib.hid (And.intro h2 h3)
          clear h2 h3
          go_wp2
          go_ret
          refine ⟨ret_bool ?_, ((Below.refl _ _).alloc (Nat.le_refl _) _).alloc (by simp) _⟩
          rw [HZ.out]
          have := HB.out
          simp only [winR, List.all_cons, List.all_nil, Bool.and_true, Bool.and_eq_true, decide_eq_true_eq] at this
          symm
          rw [decide_eq_true_eq]
          have hh := HH.out
          refine ⟨trivial, ?_⟩
          omega
        · have d3 : ((slots.length : Int) == 0) = false := by simpa using h3
          have HH := Lib.hid h3
          clear h2 h3
          go_wp2
          go_ret
          refine ⟨ret_bool ?_, ((Below.refl _ _).alloc (Nat.le_refl _) _).alloc (by simp) _⟩
          rw [HZ.out]
          symm
          rw [decide_eq_false_iff_not]
          have := HH.out
          omega
      · have d2 : ((bands.length : Int) == 0) = false := by simpa using h2
        have HH := Lib.hid h2
        clear h2
        go_wp2
        go_ret
        refine ⟨ret_bool ?_, ((Below.refl _ _).alloc (Nat.le_refl _) _).alloc (by simp) _⟩
        rw [HZ.out]
        symm
        rw [decide_eq_false_iff_not]
        have := HH.out
        omega
  · have n1 : (kind == 0) = false := by simpa using h1
    have HN := Lib.hid h1
    clear h1
    go_enter Try.func37, Try.ntmps37
    go_wp2
    go_ret
    exact ⟨ret_bool (by rw [HZ.out]; simp [HN.out]), (Below.refl _ _).alloc (Nat.le_refl _) _⟩
set_option linter.unusedSimpArgs false in
set_option maxRecDepth 100000 in
set_option maxHeartbeats 6400000 in
theorem bands_any {w : World} {a : Option Addr} {n c : Nat} {l : List (Int × Int)} (h : PRow w a n c l) :
    Calls Try.prog 34 #[.slice a n c] w fun e w' => e = .returned (.bool (bandsOk l)) ∧ Below w.heap.size w w' := by
  have HZ : Hid (bandsOk l = (decide (1 ≤ n ∧ n ≤ 8) && bandsR 0 l)) := by show _ = _; unfold bandsOk; rw [h.2]
  have HR := Lib.hid h
  clear h
  go_enter Try.func34, Try.ntmps34
  go_wp2_with fail
  refine (withinI_now 1 8 (l := [(n : Int)]) (by simp) rfl rfl (by simp)).mono ?_
  rintro e w1 ⟨rfl, rfl⟩
  by_cases hn : 1 ≤ n ∧ n ≤ 8
  · have hb : winR 1 8 [(n : Int)] = true := by simp only [winR, List.all_cons, List.all_nil, Bool.and_true, decide_eq_true_eq]; omega
    rw [hb]
    have HN := Lib.hid hn
    clear hb hn
    go_wp2_with fail
    go_loopw [3, 13] (fun z i wx => ∃ (k : Nat) (q : Int), k ≤ n ∧ z = .int .i64 q ∧ i = .int .i64 (k : Int) ∧ bandsR 0 l = bandsR q (l.drop k) ∧ 0 ≤ q ∧ q ≤ 1000000001 ∧ Below w.heap.size w wx) (fun _ i _ => n - (intOf i).toNat)
    case atStart => exact ⟨0, 0, Nat.zero_le _, rfl, rfl, rfl, by omega, by omega, (Below.refl _ _).alloc (Nat.le_refl _) _⟩
    case round =>
      obtain ⟨k, q, hk, rfl, rfl, hu, hq1, hq2, hb⟩ := hrel
      by_cases hlt : k < n
      · have hlt' : (k : Int) < (n : Int) := by omega
        obtain ⟨b, o, rfl, hbl, hc⟩ := HR.out.cell (by omega)
        have hlk : k < l.length := by have := HR.out.2; omega
        have hd : l.drop k = l.getD k (0, 0) :: l.drop (k + 1) := by rw [List.drop_eq_getElem_cons hlk, List.getD_eq_getElem?_getD, List.getElem?_eq_getElem hlk]; rfl
        have c0 := (hb.cell (p := ⟨b, o + k * 2, none⟩) hbl).trans (hc k hlt).1
        have c1 := (hb.cell (p := ⟨b, o + k * 2 + 1, none⟩) hbl).trans (hc k hlt).2
        rw [hd] at hu
        generalize l.getD k (0, 0) = x at hu c0 c1
        obtain ⟨x, y⟩ := x
        simp only at c0 c1
        have HU := Lib.hid (And.intro hu (And.intro hk hlt))
        have HQ := Lib.hid (And.intro hq1 hq2)
        have HB := Lib.hid hb
        clear hu hd hc hlk hq1 hq2 hb hk
        have hn8 : n ≤ 8 := HN.out.2
        go_wp2_with fail
        refine (within64_now q 1000000000 (l := [x]) (by simp) rfl rfl (by simp)).mono ?_
        rintro e w1 ⟨rfl, rfl⟩
        by_cases hx : q ≤ x ∧ x ≤ 1000000000
        · rw [win_yes hx]
          go_wp2_with fail
          refine (withinI_now (-1000) 1000 (l := [y]) (by simp) rfl rfl (by simp)).mono ?_
          rintro e w1 ⟨rfl, rfl⟩
          by_cases hy : -1000 ≤ y ∧ y ≤ 1000
          · rw [win_yes hy]
            have HX := Lib.hid (And.intro hx hy)
            have hw : IntKind.i64.wrap (x + 1) = x + 1 := by have := HQ.out; rw [IntKind.wrap_i64]; omega
            clear hx hy
            go_wp2
            go_roundw
            case rel =>
              refine ⟨k + 1, x + 1, by have := HU.out.2.2; omega, rfl, by go_num, ?_, ?_, ?_, bel1 (bel1 (bel1 HB.out _) _) _⟩
              · rw [HU.out.1]; simp only [bandsR]; rw [decide_eq_true HX.out.1, decide_eq_true HX.out.2]; rfl
              · have := HX.out; have := HQ.out; omega
              · have := HX.out; have := HQ.out; omega
            case measure => have := HU.out.2.2; simp [intOf]; omega
          · rw [win_no hy]
            have HX := Lib.hid (And.intro hx hy)
            clear hx hy
            go_wp2
            go_ret
            refine ⟨ret_bool ?_, bel1 (bel1 (bel1 HB.out _) _) _⟩
            rw [HZ.out, HU.out.1]; simp only [bandsR]; rw [decide_eq_false HX.out.2]; simp
        · rw [win_no hx]
          have HX := Lib.hid hx
          clear hx
          go_wp2
          go_ret
          refine ⟨ret_bool ?_, bel1 (bel1 HB.out _) _⟩
          rw [HZ.out, HU.out.1]; simp only [bandsR]; rw [decide_eq_false HX.out]; simp
      · have hlt' : ¬ (k : Int) < (n : Int) := by omega
        have ek : k = n := by omega
        subst ek
        have HB := Lib.hid (And.intro hu hb)
        clear hu hb
        go_wp2
        go_ret
        refine ⟨ret_bool ?_, HB.out.2⟩
        have e9 : l.drop k = [] := List.drop_eq_nil_of_le (by have := HR.out.2; omega)
        rw [HZ.out, HB.out.1, e9]; simp [bandsR]; exact HN.out
  · have hb : winR 1 8 [(n : Int)] = false := by simp only [winR, List.all_cons, List.all_nil, Bool.and_true, decide_eq_false_iff_not]; omega
    rw [hb]
    have HN := Lib.hid hn
    clear hb hn
    go_wp2
    go_ret
    exact ⟨ret_bool (by rw [HZ.out]; simp [HN.out]), (Below.refl _ _).alloc (Nat.le_refl _) _⟩
set_option linter.unusedSimpArgs false in
set_option maxRecDepth 100000 in
set_option maxHeartbeats 6400000 in
theorem slots_any {w : World} {a : Option Addr} {n c : Nat} {l : List (Int × Int)} (h : PRow w a n c l) (period : Int) (hp : 1 ≤ period ∧ period ≤ 1099511627776) :
    Calls Try.prog 36 #[.slice a n c, .int .i64 period] w fun e w' => e = .returned (.bool (slotsOk l period)) ∧ Below w.heap.size w w' := by
  have HZ : Hid (slotsOk l period = (decide (1 ≤ n ∧ n ≤ 8) && (decide ((l.getD 0 (1, 0)).1 = 0) && slotsR period 0 l))) := by show _ = _; unfold slotsOk; rw [h.2]
  have HR := Lib.hid h
  have HPd := Lib.hid hp
  clear h hp
  go_enter Try.func36, Try.ntmps36
  go_wp2_with fail
  refine (withinI_now 1 8 (l := [(n : Int)]) (by simp) rfl rfl (by simp)).mono ?_
  rintro e w1 ⟨rfl, rfl⟩
  by_cases hn : 1 ≤ n ∧ n ≤ 8
  · have hb : winR 1 8 [(n : Int)] = true := by simp only [winR, List.all_cons, List.all_nil, Bool.and_true, decide_eq_true_eq]; omega
    rw [hb]
    have HN := Lib.hid hn
    have hn0 : 0 < n := by omega
    obtain ⟨b, o, rfl, hbl, hc⟩ := HR.out.cell hn0
    have c0 := (hc 0 hn0).1
    have hl0 : 0 < l.length := by have := HR.out.2; omega
    have e0 : l.getD 0 (1, 0) = l.getD 0 (0, 0) := by rw [List.getD_eq_getElem?_getD, List.getD_eq_getElem?_getD, List.getElem?_eq_getElem hl0]; rfl
    rw [← e0] at c0
    have c00 : w.cell? ⟨b, o, none⟩ = some (.int .i64 (l.getD 0 (1, 0)).1) := by simpa using c0
    clear c0
    have c0 := (((Below.refl w.heap.size w).alloc (Nat.le_refl _) (.cells #[.int .i64 (n : Int)] 3)).cell (p := ⟨b, o, none⟩) hbl).trans c00
    have HC := Lib.hid hc
    generalize hf : (l.getD 0 (1, 0)).1 = f at c0
    have HF := Lib.hid hf
    clear hb hn c00 e0 hc hf hl0
    by_cases hf0 : f = 0
    · subst hf0
      have hn0' : (0 : Int) < (n : Int) := by omega
      go_wp2_with fail
      go_loopw [5, 22] (fun z i wx => ∃ (k : Nat) (q : Int), k ≤ n ∧ z = .int .i64 q ∧ i = .int .i64 (k : Int) ∧ slotsR period 0 l = slotsR period q (l.drop k) ∧ 0 ≤ q ∧ q ≤ 1099511627777 ∧ Below w.heap.size w wx) (fun _ i _ => n - (intOf i).toNat)
      case atStart => exact ⟨0, 0, Nat.zero_le _, rfl, rfl, rfl, by omega, by omega, (Below.refl _ _).alloc (Nat.le_refl _) _⟩
      case round =>
        obtain ⟨k, q, hk, rfl, rfl, hu, hq1, hq2, hb⟩ := hrel
        clear c0
        by_cases hlt : k < n
        · have hlt' : (k : Int) < (n : Int) := by omega
          have hlk : k < l.length := by have := HR.out.2; omega
          have hd : l.drop k = l.getD k (0, 0) :: l.drop (k + 1) := by rw [List.drop_eq_getElem_cons hlk, List.getD_eq_getElem?_getD, List.getElem?_eq_getElem hlk]; rfl
          have c0 := (hb.cell (p := ⟨b, o + k * 2, none⟩) hbl).trans (HC.out k hlt).1
          have c1 := (hb.cell (p := ⟨b, o + k * 2 + 1, none⟩) hbl).trans (HC.out k hlt).2
          rw [hd] at hu
          generalize l.getD k (0, 0) = x at hu c0 c1
          obtain ⟨x, y⟩ := x
          simp only at c0 c1
          have hwp : IntKind.i64.wrap (period - 1) = period - 1 := by have := HPd.out; rw [IntKind.wrap_i64]; omega
          have HU := Lib.hid (And.intro hu (And.intro hk hlt))
          have HQ := Lib.hid (And.intro hq1 (And.intro hq2 HPd.out))
          have HB := Lib.hid hb
          clear hu hd hlk hq1 hq2 hb hk
          have hn8 : n ≤ 8 := HN.out.2
          go_wp2_with fail
          refine (within64_now q (period - 1) (l := [x]) (by simp) rfl rfl (by simp)).mono ?_
          rintro e w1 ⟨rfl, rfl⟩
          by_cases hx : q ≤ x ∧ x ≤ period - 1
          · rw [win_yes hx]
            go_wp2_with fail
            refine (withinI_now 0 1000 (l := [y]) (by simp) rfl rfl (by simp)).mono ?_
            rintro e w1 ⟨rfl, rfl⟩
            by_cases hy : 0 ≤ y ∧ y ≤ 1000
            · rw [win_yes hy]
              have HX := Lib.hid (And.intro hx hy)
              have hw : IntKind.i64.wrap (x + 1) = x + 1 := by have := HQ.out; rw [IntKind.wrap_i64]; omega
              clear hx hy
              go_wp2
              go_roundw
              case rel =>
                refine ⟨k + 1, x + 1, by have := HU.out.2.2; omega, rfl, by go_num, ?_, ?_, ?_, bel1 (bel1 (bel1 HB.out _) _) _⟩
                · rw [HU.out.1]; simp only [slotsR]; rw [decide_eq_true HX.out.1, decide_eq_true HX.out.2]; rfl
                · have := HX.out; have := HQ.out; omega
                · have := HX.out; have := HQ.out; omega
              case measure => have := HU.out.2.2; simp [intOf]; omega
            · rw [win_no hy]
              have HX := Lib.hid (And.intro hx hy)
              clear hx hy
              go_wp2
              go_ret
              refine ⟨ret_bool ?_, bel1 (bel1 (bel1 HB.out _) _) _⟩
              rw [HZ.out, HU.out.1]; simp only [slotsR]; rw [decide_eq_false HX.out.2]; simp
          · rw [win_no hx]
            have HX := Lib.hid hx
            clear hx
            go_wp2
            go_ret
            refine ⟨ret_bool ?_, bel1 (bel1 HB.out _) _⟩
            rw [HZ.out, HU.out.1]; simp only [slotsR]; rw [decide_eq_false HX.out]; simp
        · have hlt' : ¬ (k : Int) < (n : Int) := by omega
          have ek : k = n := by omega
          subst ek
          have HB := Lib.hid (And.intro hu hb)
          clear hu hb
          go_wp2
          go_ret
          refine ⟨ret_bool ?_, HB.out.2⟩
          have e9 : l.drop k = [] := List.drop_eq_nil_of_le (by have := HR.out.2; omega)
          rw [HZ.out, HB.out.1, e9, HF.out]; simp [slotsR]; exact HN.out
    · have ne : (f == 0) = false := by simpa using hf0
      have hn0' : (0 : Int) < (n : Int) := by omega
      have HF0 := Lib.hid hf0
      clear hf0
      go_wp2
      go_ret
      refine ⟨ret_bool ?_, (Below.refl _ _).alloc (Nat.le_refl _) _⟩
      rw [HZ.out, HF.out, decide_eq_false HF0.out]
      simp
  · have hb : winR 1 8 [(n : Int)] = false := by simp only [winR, List.all_cons, List.all_nil, Bool.and_true, decide_eq_false_iff_not]; omega
    rw [hb]
    have HN := Lib.hid hn
    clear hb hn
    go_wp2
    go_ret
    exact ⟨ret_bool (by rw [HZ.out]; simp [HN.out]), (Below.refl _ _).alloc (Nat.le_refl _) _⟩
end Go.Proofs.Ytnpakjdgcmbcnaa

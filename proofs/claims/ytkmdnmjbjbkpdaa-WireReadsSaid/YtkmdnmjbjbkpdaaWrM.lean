/- The reference's writer: Num, Text, Bytes. -/
import Derived.Test.YtkmdnmjbjbkpdaaWrI
namespace Go.Proofs.Ytkmdnmjbjbkpdaa
open Go.RowKit
open Wir

set_option linter.unusedSimpArgs false in
set_option maxRecDepth 100000 in
set_option maxHeartbeats 1600000 in
theorem rwnum_any {w : World} {p : Nat} {bs : List Nat} {O : Nat → Prop} (h : Wtr 44 w p bs O) (n : Int) (h1 : -9223372036854775808 ≤ n) (h2 : n ≤ 9223372036854775807) (hlen : bs.length ≤ 1000000000) :
    Calls Try.prog 21 #[.pointer (some ⟨p, 0, none⟩), .int .i64 n] w fun e w' => e = .returned (.tuple #[]) ∧ WMv 44 w p (bs ++ dg (cnt n)) O w' := by
  have hcl := cnt_lt h1 h2
  have hdl := dg_le hcl
  have HS := Lib.hid (WMv.start h)
  clear h
  have LOOP : Calls Try.prog 21 #[.pointer (some ⟨p, 0, none⟩), .int .i64 n] w fun e w' => e = .returned (.tuple #[]) ∧ WMv 44 w p (bs ++ dg (cnt n)) O w' := by
    by_cases hn : n < 0
    · have e1 : IntKind.i64.wrap (n + 1) = n + 1 := by rw [IntKind.wrap_i64]; omega
      have e2 : IntKind.i64.wrap (-(n + 1)) = -(n + 1) := by rw [IntKind.wrap_i64]; omega
      have e3 : IntKind.u64.wrap (-(n + 1)) = -(n + 1) := by rw [IntKind.wrap_u64]; omega
      have e4 : IntKind.u64.wrap (-(n + 1) * 2) = -(n + 1) * 2 := by rw [IntKind.wrap_u64]; omega
      have e5 : IntKind.u64.wrap (-(n + 1) * 2 + 1) = ((cnt n : Nat) : Int) := by rw [IntKind.wrap_u64]; unfold cnt; rw [if_neg (by omega)]; omega
      generalize cnt n = C at *
      go_enter Try.func21, Try.ntmps21
      go_wp2_with fail
      go_loopw [4] (fun i wx => ∃ (c : Nat) (ds : List Nat), i = .int .u64 (c : Int) ∧ c ≤ C ∧ dg C = ds ++ dg c ∧ WMv 44 w p (bs ++ ds) O wx) (fun i _ => (intOf i).toNat)
      case atStart => exact ⟨C, [], rfl, Nat.le_refl _, rfl, by simpa using HS.out⟩
      case round =>
        obtain ⟨c, ds, rfl, hcC, hds, O1, ⟨v, hv⟩, hbut, hnew⟩ := hrel
        have hdl2 : ds.length ≤ 10 := by have := congrArg List.length hds; simp at this; omega
        have k0 := cell_of_row _ _ 0 _ _ _ hv.cells
        have z0 := frozen_of_row _ _ 0 _ _ hv.cells
        simp at k0
        have hpl := hv.lt p hv.pO
        have hown := hv.own
        have HV := Lib.hid (And.intro hv (And.intro hbut hnew))
        have Hd := Lib.hid hds
        have hbl : (bs ++ ds).length ≤ 1000000010 := by simp; omega
        clear hv hbut hnew hds
        generalize hB : bs ++ ds = B at hown HV hbl
        have HB := Lib.hid hB
        clear hB
        by_cases hc : c < 128
        · have hc' : ¬ (128 : Int) ≤ (c : Int) := by omega
          have hw : IntKind.u8.wrap (c : Int) = (c : Int) := by rw [IntKind.wrap_u8]; omega
          have HX := Lib.hid (dg_lo hc)
          go_wp2_with (at_builtin; refine wpList_append_sl rfl (.tmp 37) (.tmp 40) _ rfl (p + 1) _ Try.underlying22 info_u8 v B rfl (hown.alloc _) _ (some ⟨wr.heap.size, 0, none⟩) 1 1 [c] rfl (Sl.one _ _ (by omega)) (by simp; omega) (by simp; omega) ?_; intro v1 w3 hown1 hg1 hat1; obtain ⟨k3, z3⟩ := HV.out.1.cell3 ((Below.refl _ _).alloc (Nat.le_refl _) _) hg1; have H3 := Lib.hid (And.intro hown1 (And.intro hg1 hat1)); obtain ⟨a1, n1, y1, rfl⟩ := hown1.form; clear hown1 hg1 hat1 k0 z0 hown)
          go_end0
          obtain ⟨q1, q2, q3⟩ := HV.out
          refine ⟨rfl, WMv.then_ q2 q3 ?_⟩
          have := q1.put (cs := [c]) ((Below.refl _ _).alloc (Nat.le_refl _) _) H3.out.1 H3.out.2.1 H3.out.2.2 (by simp; omega)
          rw [Hd.out, HX.out, ← List.append_assoc, HB.out]
          exact this
        · have hc' : (128 : Int) ≤ (c : Int) := by omega
          obtain ⟨x, hx⟩ : ∃ x, x = c % 128 + 128 := ⟨_, rfl⟩
          have hor : IntKind.u64.wrap ((c : Int) % 128 + 128) = (x : Int) := by rw [IntKind.wrap_u64]; omega
          have hor2 : IntKind.u8.wrap (x : Int) = (x : Int) := by rw [IntKind.wrap_u8]; omega
          have hxl : x < 256 := by omega
          have HX := Lib.hid (dg_hi hc)
          rw [← hx] at HX
          clear hx
          go_wp2_with (at_builtin; refine wpList_append_sl rfl (.tmp 22) (.tmp 27) _ rfl (p + 1) _ Try.underlying22 info_u8 v B rfl (hown.alloc _) _ (some ⟨wr.heap.size, 0, none⟩) 1 1 [x] rfl (Sl.one _ _ hxl) (by simp; omega) (by simp; omega) ?_; intro v1 w3 hown1 hg1 hat1; obtain ⟨k3, z3⟩ := HV.out.1.cell3 ((Below.refl _ _).alloc (Nat.le_refl _) _) hg1; have H3 := Lib.hid (And.intro hown1 (And.intro hg1 hat1)); obtain ⟨a1, n1, y1, rfl⟩ := hown1.form; clear hown1 hg1 hat1 k0 z0 hown)
          go_roundw
          case rel =>
            obtain ⟨q1, q2, q3⟩ := HV.out
            have := q1.put (cs := [x]) ((Below.refl _ _).alloc (Nat.le_refl _) _) H3.out.1 H3.out.2.1 H3.out.2.2 (by simp; omega)
            exact ⟨c / 128, ds ++ [x], by go_num, by omega, by rw [Hd.out, HX.out, List.append_assoc]; rfl, WMv.then_ q2 q3 (by rw [← List.append_assoc, HB.out]; exact this)⟩
          case measure => simp [intOf]; omega
    · have e3 : IntKind.u64.wrap n = n := by rw [IntKind.wrap_u64]; omega
      have e4 : IntKind.u64.wrap (n * 2) = ((cnt n : Nat) : Int) := by rw [IntKind.wrap_u64]; unfold cnt; rw [if_pos (by omega)]; omega
      generalize cnt n = C at *
      go_enter Try.func21, Try.ntmps21
      go_wp2_with fail
      go_loopw [4] (fun i wx => ∃ (c : Nat) (ds : List Nat), i = .int .u64 (c : Int) ∧ c ≤ C ∧ dg C = ds ++ dg c ∧ WMv 44 w p (bs ++ ds) O wx) (fun i _ => (intOf i).toNat)
      case atStart => exact ⟨C, [], rfl, Nat.le_refl _, rfl, by simpa using HS.out⟩
      case round =>
        obtain ⟨c, ds, rfl, hcC, hds, O1, ⟨v, hv⟩, hbut, hnew⟩ := hrel
        have hdl2 : ds.length ≤ 10 := by have := congrArg List.length hds; simp at this; omega
        have k0 := cell_of_row _ _ 0 _ _ _ hv.cells
        have z0 := frozen_of_row _ _ 0 _ _ hv.cells
        simp at k0
        have hpl := hv.lt p hv.pO
        have hown := hv.own
        have HV := Lib.hid (And.intro hv (And.intro hbut hnew))
        have Hd := Lib.hid hds
        have hbl : (bs ++ ds).length ≤ 1000000010 := by simp; omega
        clear hv hbut hnew hds
        generalize hB : bs ++ ds = B at hown HV hbl
        have HB := Lib.hid hB
        clear hB
        by_cases hc : c < 128
        · have hc' : ¬ (128 : Int) ≤ (c : Int) := by omega
          have hw : IntKind.u8.wrap (c : Int) = (c : Int) := by rw [IntKind.wrap_u8]; omega
          have HX := Lib.hid (dg_lo hc)
          go_wp2_with (at_builtin; refine wpList_append_sl rfl (.tmp 37) (.tmp 40) _ rfl (p + 1) _ Try.underlying22 info_u8 v B rfl (hown.alloc _) _ (some ⟨wr.heap.size, 0, none⟩) 1 1 [c] rfl (Sl.one _ _ (by omega)) (by simp; omega) (by simp; omega) ?_; intro v1 w3 hown1 hg1 hat1; obtain ⟨k3, z3⟩ := HV.out.1.cell3 ((Below.refl _ _).alloc (Nat.le_refl _) _) hg1; have H3 := Lib.hid (And.intro hown1 (And.intro hg1 hat1)); obtain ⟨a1, n1, y1, rfl⟩ := hown1.form; clear hown1 hg1 hat1 k0 z0 hown)
          go_end0
          obtain ⟨q1, q2, q3⟩ := HV.out
          refine ⟨rfl, WMv.then_ q2 q3 ?_⟩
          have := q1.put (cs := [c]) ((Below.refl _ _).alloc (Nat.le_refl _) _) H3.out.1 H3.out.2.1 H3.out.2.2 (by simp; omega)
          rw [Hd.out, HX.out, ← List.append_assoc, HB.out]
          exact this
        · have hc' : (128 : Int) ≤ (c : Int) := by omega
          obtain ⟨x, hx⟩ : ∃ x, x = c % 128 + 128 := ⟨_, rfl⟩
          have hor : IntKind.u64.wrap ((c : Int) % 128 + 128) = (x : Int) := by rw [IntKind.wrap_u64]; omega
          have hor2 : IntKind.u8.wrap (x : Int) = (x : Int) := by rw [IntKind.wrap_u8]; omega
          have hxl : x < 256 := by omega
          have HX := Lib.hid (dg_hi hc)
          rw [← hx] at HX
          clear hx
          go_wp2_with (at_builtin; refine wpList_append_sl rfl (.tmp 22) (.tmp 27) _ rfl (p + 1) _ Try.underlying22 info_u8 v B rfl (hown.alloc _) _ (some ⟨wr.heap.size, 0, none⟩) 1 1 [x] rfl (Sl.one _ _ hxl) (by simp; omega) (by simp; omega) ?_; intro v1 w3 hown1 hg1 hat1; obtain ⟨k3, z3⟩ := HV.out.1.cell3 ((Below.refl _ _).alloc (Nat.le_refl _) _) hg1; have H3 := Lib.hid (And.intro hown1 (And.intro hg1 hat1)); obtain ⟨a1, n1, y1, rfl⟩ := hown1.form; clear hown1 hg1 hat1 k0 z0 hown)
          go_roundw
          case rel =>
            obtain ⟨q1, q2, q3⟩ := HV.out
            have := q1.put (cs := [x]) ((Below.refl _ _).alloc (Nat.le_refl _) _) H3.out.1 H3.out.2.1 H3.out.2.2 (by simp; omega)
            exact ⟨c / 128, ds ++ [x], by go_num, by omega, by rw [Hd.out, HX.out, List.append_assoc]; rfl, WMv.then_ q2 q3 (by rw [← List.append_assoc, HB.out]; exact this)⟩
          case measure => simp [intOf]; omega
  exact LOOP
set_option linter.unusedSimpArgs false in
set_option maxRecDepth 100000 in
set_option maxHeartbeats 1600000 in
theorem rwtext_any {w : World} {p : Nat} {bs : List Nat} {O : Nat → Prop} (h : Wtr 44 w p bs O) (a : Option Addr) (len cap : Nat) (t : List Nat) (hs : Sl w w.heap.size a len cap t) (hfar : 0 < len → ∀ b o, a = some ⟨b, o, none⟩ → ¬ O b)
    (hlen : bs.length ≤ 1000000000) (hl : len ≤ 1000000000) :
    Calls Try.prog 23 #[.pointer (some ⟨p, 0, none⟩), .slice a len cap] w fun e w' => e = .returned (.tuple #[]) ∧ WMv 44 w p (bs ++ (dg (cnt (len : Int)) ++ t)) O w' := by
  have NU := Lib.hid (rwnum_any h (len : Int) (by omega) (by omega) hlen)
  have hdl := dg_le (cnt_lt (n := (len : Int)) (by omega) (by omega))
  have htl := hs.length
  have hS := Lib.hid (And.intro hs hfar)
  clear h hs hfar
  go_enter Try.func23, Try.ntmps23
  go_wp2_with fail
  refine NU.out.mono ?_
  rintro e w1 ⟨rfl, O1, ⟨v, hv⟩, hbut, hnew⟩
  have k0 := cell_of_row _ _ 0 _ _ _ hv.cells
  simp at k0
  have hpl := hv.lt p hv.pO
  have hown := hv.own
  have hs1 := hS.out.1.same_ hbut.size (fun hp b o e => hbut.block b (by obtain ⟨b', o', e', hlt, _⟩ := hS.out.1.at_ hp; rw [e] at e'; injection e' with e'; injection e' with e'; omega) (hS.out.2 hp b o e))
  have HT := Lib.hid hs1.byte
  have HV := Lib.hid (And.intro hv (And.intro hbut hnew))
  have hbl : (bs ++ dg (cnt (len : Int))).length ≤ 1000000010 := by simp; omega
  clear hv hbut hnew
  generalize hB : bs ++ dg (cnt (len : Int)) = B at hown HV hbl
  have HB := Lib.hid hB
  clear hB
  go_wp2_with (at_builtin; refine wpList_append_sl rfl (.tmp 12) (.tmp 13) _ rfl (p + 1) _ Try.underlying22 info_u8 v B rfl hown _ a len cap t rfl hs1 (by omega) (by omega) ?_; intro v1 w3 hown1 hg1 hat1; obtain ⟨k3, z3⟩ := HV.out.1.cell3 (Below.refl _ _) hg1; have H3 := Lib.hid (And.intro hown1 (And.intro hg1 hat1)); obtain ⟨a1, n1, y1, rfl⟩ := hown1.form; clear hown1 hg1 hat1 k0 hown hs1)
  go_end0
  obtain ⟨q1, q2, q3⟩ := HV.out
  refine ⟨rfl, WMv.then_ q2 q3 ?_⟩
  have := q1.put (cs := t) (Below.refl _ _) H3.out.1 H3.out.2.1 H3.out.2.2 HT.out
  rw [← List.append_assoc, HB.out]
  exact this
set_option linter.unusedSimpArgs false in
theorem rwbytes_any {w : World} {p : Nat} {bs : List Nat} {O : Nat → Prop} (h : Wtr 44 w p bs O) (hlen : bs.length ≤ 2000000000) :
    Calls Try.prog 25 #[.pointer (some ⟨p, 0, none⟩)] w fun e w' => ∃ a c, e = .returned (.slice a bs.length c) ∧ Sl w' w'.heap.size a bs.length c bs ∧ Below w.heap.size w w' ∧ ∀ b o, a = some ⟨b, o, none⟩ → w.heap.size ≤ b := by
  obtain ⟨v, hv⟩ := h
  obtain ⟨a, cap, rfl, hs⟩ := hv.own.sl hv.byte
  have k0 : (w.alloc (.cells #[] 5)).cell? ⟨p, 0, none⟩ = some (.slice a bs.length cap) := (World.cell?_alloc_past _ _ _ (hv.lt p hv.pO)).trans (show w.cell? ⟨p, 0, none⟩ = some (.slice a bs.length cap) from by rw [cell_of_row _ _ 0 _ _ _ hv.cells]; rfl)
  have hpl := hv.lt p hv.pO
  have hown0 : OwnB (w.alloc (.cells #[] 5)) w.heap.size 5 (.slice (some ⟨w.heap.size, 0, none⟩) 0 0) [] := OwnB.lit _ [] (Nat.le_refl _) (by decide)
  have hs2 := hs.below ((Below.refl _ w).alloc (Nat.le_refl _) (.cells #[] 5)) (Nat.le_refl _)
  have HB := Lib.hid hv.byte
  clear hs hv
  go_enter Try.func25, Try.ntmps25
  go_wp2_with (at_builtin; refine wpList_append_sl rfl (.tmp 3) (.tmp 7) _ rfl w.heap.size _ Try.underlying22 info_u8 (.slice (some ⟨w.heap.size, 0, none⟩) 0 0) [] rfl hown0 _ a bs.length cap bs rfl hs2 (by simp; omega) (by simp) ?_; intro v1 w3 hown1 hg1 hat1; have H3 := Lib.hid (And.intro hown1 (And.intro hg1 hat1)); clear hown1 hg1 hat1 hown0 hs2 k0)
  go_ret
  obtain ⟨h1, h2, _⟩ := H3.out
  rw [List.nil_append] at h1
  obtain ⟨a2, c2, rfl, hs4, hbb⟩ := h1.sl_base HB.out
  exact ⟨a2, c2, rfl, hs4, ((Below.refl _ w).alloc (Nat.le_refl _) _).grown h2 (by simp) (fun k hk => by simp [Value.ownBlock] at hk; omega), hbb⟩
end Go.Proofs.Ytkmdnmjbjbkpdaa

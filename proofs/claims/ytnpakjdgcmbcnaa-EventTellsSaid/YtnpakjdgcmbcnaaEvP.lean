/- The reference's Same: policies, events. -/
import Derived.Test.YtnpakjdgcmbcnaaEvI
import Derived.Test.YtnpakjdgcmbcnaaEvV
namespace Go.Proofs.Ytnpakjdgcmbcnaa
open Go.RowKit
open Wir Evn
attribute [local go_sem] Oper.semAt_some

theorem take_more {l m : List (Int × Int)} {k : Nat} (h1 : k < l.length) (h2 : k < m.length) (h : l.take k = m.take k) (e : l.getD k (0, 0) = m.getD k (0, 0)) : l.take (k + 1) = m.take (k + 1) := by
  rw [List.getD_eq_getElem?_getD, List.getElem?_eq_getElem h1, List.getD_eq_getElem?_getD, List.getElem?_eq_getElem h2] at e
  rw [List.take_succ_eq_append_getElem h1, List.take_succ_eq_append_getElem h2, h]
  simp only [Option.getD_some] at e
  rw [e]
theorem take_all {l m : List (Int × Int)} {n : Nat} (h1 : l.length ≤ n) (h2 : m.length ≤ n) (h : l.take n = m.take n) : l = m := by
  rwa [List.take_of_length_le h1, List.take_of_length_le h2] at h
set_option linter.unusedSimpArgs false in
set_option maxRecDepth 100000 in
set_option maxHeartbeats 6400000 in
theorem samePol_any {w : World} {a1 a2 b1 b2 : Option Addr} {c1 c2 d1 d2 : Nat} (p q : Pl) (P1 : PRow w a1 p.bands.length c1 p.bands) (P2 : PRow w a2 p.slots.length c2 p.slots) (Q1 : PRow w b1 q.bands.length d1 q.bands) (Q2 : PRow w b2 q.slots.length d2 q.slots) :
    Calls Try.prog 18 #[plV p a1 a2 c1 c2, plV q b1 b2 d1 d2] w fun e w' => e = .returned (.bool (plSame p q)) ∧ Below w.heap.size w w' := by
  have m1 := P1.1.le
  have m2 := P1.1.max
  have m3 := P2.1.le
  have m4 := P2.1.max
  unfold maxLen at m2 m4
  obtain ⟨xkind, xtarget, xbands, xkp, xki, xkd, xperiod, xslots⟩ := p
  obtain ⟨ykind, ytarget, ybands, ykp, yki, ykd, yperiod, yslots⟩ := q
  have HZ : Hid (¬ ⟨xkind, xtarget, xbands, xkp, xki, xkd, xperiod, xslots⟩ = (⟨ykind, ytarget, ybands, ykp, yki, ykd, yperiod, yslots⟩ : Pl) → plSame ⟨xkind, xtarget, xbands, xkp, xki, xkd, xperiod, xslots⟩ ⟨ykind, ytarget, ybands, ykp, yki, ykd, yperiod, yslots⟩ = false) := fun h => by
    apply Bool.eq_false_iff.2
    intro h2
    exact h (plSame_iff.1 h2)
  have HY : Hid (∀ p : Pl, plSame p p = true) := fun p => plSame_iff.2 rfl
  have HM := Lib.hid (And.intro P1 (And.intro P2 (And.intro Q1 Q2)))
  clear P1 P2 Q1 Q2
  unfold plV
  simp only at m1 m2 m3 m4 ⊢
  by_cases hh : xkind = ykind
  rotate_left
  · have ne : (xkind == ykind) = false := by simpa using hh
    have HH := Lib.hid hh
    clear hh
    go_enter Try.func18, Try.ntmps18
    go_wp2
    go_ret
    exact ⟨ret_bool (HZ.out (fun h => by injection h with h1 h2 h3 h4 h5 h6 h7 h8; exact HH.out h1)).symm, bel1 (bel1 (Below.refl _ _) _) _⟩
  subst hh
  by_cases hh : xtarget = ytarget
  rotate_left
  · have ne : (xtarget == ytarget) = false := by simpa using hh
    have HH := Lib.hid hh
    clear hh
    go_enter Try.func18, Try.ntmps18
    go_wp2
    go_ret
    exact ⟨ret_bool (HZ.out (fun h => by injection h with h1 h2 h3 h4 h5 h6 h7 h8; exact HH.out h2)).symm, bel1 (bel1 (Below.refl _ _) _) _⟩
  subst hh
  by_cases hh : xkp = ykp
  rotate_left
  · have ne : (xkp == ykp) = false := by simpa using hh
    have HH := Lib.hid hh
    clear hh
    go_enter Try.func18, Try.ntmps18
    go_wp2
    go_ret
    exact ⟨ret_bool (HZ.out (fun h => by injection h with h1 h2 h3 h4 h5 h6 h7 h8; exact HH.out h4)).symm, bel1 (bel1 (Below.refl _ _) _) _⟩
  subst hh
  by_cases hh : xki = yki
  rotate_left
  · have ne : (xki == yki) = false := by simpa using hh
    have HH := Lib.hid hh
    clear hh
    go_enter Try.func18, Try.ntmps18
    go_wp2
    go_ret
    exact ⟨ret_bool (HZ.out (fun h => by injection h with h1 h2 h3 h4 h5 h6 h7 h8; exact HH.out h5)).symm, bel1 (bel1 (Below.refl _ _) _) _⟩
  subst hh
  by_cases hh : xkd = ykd
  rotate_left
  · have ne : (xkd == ykd) = false := by simpa using hh
    have HH := Lib.hid hh
    clear hh
    go_enter Try.func18, Try.ntmps18
    go_wp2
    go_ret
    exact ⟨ret_bool (HZ.out (fun h => by injection h with h1 h2 h3 h4 h5 h6 h7 h8; exact HH.out h6)).symm, bel1 (bel1 (Below.refl _ _) _) _⟩
  subst hh
  by_cases hh : xperiod = yperiod
  rotate_left
  · have ne : (xperiod == yperiod) = false := by simpa using hh
    have HH := Lib.hid hh
    clear hh
    go_enter Try.func18, Try.ntmps18
    go_wp2
    go_ret
    exact ⟨ret_bool (HZ.out (fun h => by injection h with h1 h2 h3 h4 h5 h6 h7 h8; exact HH.out h7)).symm, bel1 (bel1 (Below.refl _ _) _) _⟩
  subst hh
  by_cases hbands : xbands.length = ybands.length
  rotate_left
  · have HH := Lib.hid hbands
    go_enter Try.func18, Try.ntmps18
    go_wp2
    go_ret
    exact ⟨ret_bool (HZ.out (fun h => by injection h with h1 h2 h3 h4 h5 h6 h7 h8; exact HH.out (by rw [h3]))).symm, bel1 (bel1 (Below.refl _ _) _) _⟩
  rw [← hbands]
  by_cases hslots : xslots.length = yslots.length
  rotate_left
  · have HH := Lib.hid hslots
    go_enter Try.func18, Try.ntmps18
    go_wp2
    go_ret
    exact ⟨ret_bool (HZ.out (fun h => by injection h with h1 h2 h3 h4 h5 h6 h7 h8; exact HH.out (by rw [h8]))).symm, bel1 (bel1 (Below.refl _ _) _) _⟩
  rw [← hslots]
  have HL := Lib.hid (And.intro hbands hslots)
  obtain ⟨wB, hwB⟩ : ∃ wB, wB = (w.alloc (.cells #[.int .i64 xkind, .int .i64 xtarget, .slice a1 xbands.length c1, .int .i64 xkp, .int .i64 xki, .int .i64 xkd, .int .i64 xperiod, .slice a2 xslots.length c2] 25)).alloc (.cells #[.int .i64 xkind, .int .i64 xtarget, .slice b1 xbands.length d1, .int .i64 xkp, .int .i64 xki, .int .i64 xkd, .int .i64 xperiod, .slice b2 xslots.length d2] 25) := ⟨_, rfl⟩
  have hbB : Below w.heap.size w wB := by rw [hwB]; exact bel1 (bel1 (Below.refl _ _) _) _
  have hx : wB.heap[w.heap.size]? = some (.cells #[.int .i64 xkind, .int .i64 xtarget, .slice a1 xbands.length c1, .int .i64 xkp, .int .i64 xki, .int .i64 xkd, .int .i64 xperiod, .slice a2 xslots.length c2] 25 (0, 0)) := by rw [hwB]; exact (Below.heap_alloc _ _ _ (by simp)).trans (heap_alloc_new _ _)
  have hy : wB.heap[w.heap.size + 1]? = some (.cells #[.int .i64 xkind, .int .i64 xtarget, .slice b1 xbands.length d1, .int .i64 xkp, .int .i64 xki, .int .i64 xkd, .int .i64 xperiod, .slice b2 xslots.length d2] 25 (0, 0)) := by rw [hwB, show w.heap.size + 1 = (w.alloc (.cells #[.int .i64 xkind, .int .i64 xtarget, .slice a1 xbands.length c1, .int .i64 xkp, .int .i64 xki, .int .i64 xkd, .int .i64 xperiod, .slice a2 xslots.length c2] 25)).heap.size from by simp]; exact heap_alloc_new _ _
  have HW : Hid ((w.alloc (.cells #[.int .i64 xkind, .int .i64 xtarget, .slice a1 xbands.length c1, .int .i64 xkp, .int .i64 xki, .int .i64 xkd, .int .i64 xperiod, .slice a2 xslots.length c2] 25)).alloc (.cells #[.int .i64 xkind, .int .i64 xtarget, .slice b1 xbands.length d1, .int .i64 xkp, .int .i64 xki, .int .i64 xkd, .int .i64 xperiod, .slice b2 xslots.length d2] 25) = wB) := hwB.symm
  have HXY := Lib.hid (And.intro hx (And.intro hy hbB))
  clear hx hy hbB hwB hbands hslots
  go_enter Try.func18, Try.ntmps18
  go_wp2_with fail
  rw [HW.out]
  clear HW
  go_loopw [5] (fun i wx => ∃ k : Nat, k ≤ xbands.length ∧ i = .int .i64 (k : Int) ∧ xbands.take k = ybands.take k ∧ Below wB.heap.size wB wx) (fun i _ => xbands.length - (intOf i).toNat)
  case atStart => exact ⟨0, Nat.zero_le _, rfl, by simp, Below.refl _ _⟩
  case round =>
    obtain ⟨k, hk, rfl, htk, hb⟩ := hrel
    have kx := cell_of_row wr w.heap.size 2 _ _ _ ((hb.block _ (lt_of_heap HXY.out.1)).trans HXY.out.1)
    have ky := cell_of_row wr (w.heap.size + 1) 2 _ _ _ ((hb.block _ (lt_of_heap HXY.out.2.1)).trans HXY.out.2.1)
    simp only [List.getElem?_toArray, List.getElem?_cons_zero, List.getElem?_cons_succ] at kx ky
    by_cases hlt : k < xbands.length
    · have hlt' : (k : Int) < (xbands.length : Int) := by omega
      have hk2 : k < ybands.length := by have := HL.out.1; omega
      obtain ⟨bx, ox, ea, hbx, hcx⟩ := HM.out.1.cell (by omega)
      obtain ⟨bq, oq, eb, hbq, hcq⟩ := HM.out.2.2.1.cell (by omega)
      have hb2 := HXY.out.2.2.trans (hb.mono HXY.out.2.2.size)
      have e1 := (hb2.cell (p := ⟨bx, ox + k * 2, none⟩) hbx).trans (hcx k hlt).1
      have e2 := (hb2.cell (p := ⟨bx, ox + k * 2 + 1, none⟩) hbx).trans (hcx k hlt).2
      have e3 := (hb2.cell (p := ⟨bq, oq + k * 2, none⟩) hbq).trans (hcq k hk2).1
      have e4 := (hb2.cell (p := ⟨bq, oq + k * 2 + 1, none⟩) hbq).trans (hcq k hk2).2
      rw [ea] at kx
      rw [eb] at ky
      have HT := Lib.hid (fun e => take_more hlt hk2 htk e)
      have HN : Hid (∀ h : xbands = ybands, xbands.getD k (0, 0) = ybands.getD k (0, 0)) := fun h => by rw [h]
      generalize xbands.getD k (0, 0) = u at HT HN e1 e2
      generalize ybands.getD k (0, 0) = v at HT HN e3 e4
      obtain ⟨u1, u2⟩ := u
      obtain ⟨v1, v2⟩ := v
      simp only at e1 e2 e3 e4
      have HB := Lib.hid (And.intro hb (And.intro hk hlt))
      clear hb hb2 hcx hcq htk hk ea eb
      by_cases h1 : u1 = v1
      · subst h1
        by_cases h2 : u2 = v2
        · subst h2
          go_wp2_with fail
          refine wp_region_held_drew (S := fun x' => x'.cell? ⟨w.heap.size, 2, none⟩ = some (.slice (some ⟨bx, ox, none⟩) xbands.length c1) ∧ x'.cell? ⟨w.heap.size + 1, 2, none⟩ = some (.slice (some ⟨bq, oq, none⟩) xbands.length d1) ∧ x'.cell? ⟨bx, ox + k * 2, none⟩ = some (.int .i64 u1) ∧ x'.cell? ⟨bx, ox + k * 2 + 1, none⟩ = some (.int .i64 u2) ∧ x'.cell? ⟨bq, oq + k * 2, none⟩ = some (.int .i64 u1) ∧ x'.cell? ⟨bq, oq + k * 2 + 1, none⟩ = some (.int .i64 u2)) (by kernel_rfl) ⟨kx, ky, e1, e2, e3, e4⟩ (fun hHeld => ?_)
          refine wpAnyH_take (i := 0) (v := ?_) rfl (by kernel_rfl) (by kernel_rfl) (by kernel_rfl) (fun _ _ _ h => h) (Or.inl ⟨by rfl, ?_⟩) (by assumption) ?_
          rotate_left
          · intro w hSw
            (try dsimp only at hSw)
            go_simp
            all_goals with_reducible rfl
          try simp only [Act.put, List.getElem_toArray, List.getElem_cons_succ, List.getElem_cons_zero, List.setIfInBounds_toArray, List.set_cons_zero, List.set_cons_succ]
          refine wpAnyH_take (i := 1) (v := ?_) rfl (by kernel_rfl) (by kernel_rfl) (by kernel_rfl) (fun _ _ _ h => h) (Or.inl ⟨by rfl, ?_⟩) (by assumption) ?_
          rotate_left
          · intro w hSw
            (try dsimp only at hSw)
            go_simp
            all_goals with_reducible rfl
          try simp only [Act.put, List.getElem_toArray, List.getElem_cons_succ, List.getElem_cons_zero, List.setIfInBounds_toArray, List.set_cons_zero, List.set_cons_succ]
          refine wpAnyH_take (i := 2) (v := ?_) rfl (by kernel_rfl) (by kernel_rfl) (by kernel_rfl) (fun _ _ _ h => h) (Or.inl ⟨by rfl, ?_⟩) (by assumption) ?_
          rotate_left
          · intro w hSw
            (try dsimp only at hSw)
            go_simp
            all_goals with_reducible rfl
          try simp only [Act.put, List.getElem_toArray, List.getElem_cons_succ, List.getElem_cons_zero, List.setIfInBounds_toArray, List.set_cons_zero, List.set_cons_succ]
          refine wpAnyH_take (i := 3) (v := ?_) rfl (by kernel_rfl) (by kernel_rfl) (by kernel_rfl) (fun _ _ _ h => h) (Or.inl ⟨by rfl, ?_⟩) (by assumption) ?_
          rotate_left
          · intro w hSw
            (try dsimp only at hSw)
            go_simp
            all_goals with_reducible rfl
          try simp only [Act.put, List.getElem_toArray, List.getElem_cons_succ, List.getElem_cons_zero, List.setIfInBounds_toArray, List.set_cons_zero, List.set_cons_succ]
          refine wpAnyH_take (i := 4) (v := ?_) rfl (by kernel_rfl) (by kernel_rfl) (by kernel_rfl) (fun _ _ _ h => h) (Or.inl ⟨by rfl, ?_⟩) (by assumption) ?_
          rotate_left
          · intro w hSw
            (try dsimp only at hSw)
            go_simp
            all_goals with_reducible rfl
          try simp only [Act.put, List.getElem_toArray, List.getElem_cons_succ, List.getElem_cons_zero, List.setIfInBounds_toArray, List.set_cons_zero, List.set_cons_succ]
          refine wpAnyH_take (i := 5) (v := ?_) rfl (by kernel_rfl) (by kernel_rfl) (by kernel_rfl) (fun _ _ _ h => h) (Or.inl ⟨by rfl, ?_⟩) (by assumption) ?_
          rotate_left
          · intro w hSw
            (try dsimp only at hSw)
            go_simp
            all_goals with_reducible rfl
          try simp only [Act.put, List.getElem_toArray, List.getElem_cons_succ, List.getElem_cons_zero, List.setIfInBounds_toArray, List.set_cons_zero, List.set_cons_succ]
          refine wpAnyH_take (i := 6) (v := ?_) rfl (by kernel_rfl) (by kernel_rfl) (by kernel_rfl) (fun _ _ _ h => h) (Or.inl ⟨by rfl, ?_⟩) (by assumption) ?_
          rotate_left
          · intro w hSw
            (try dsimp only at hSw)
            go_simp
            all_goals with_reducible rfl
          try simp only [Act.put, List.getElem_toArray, List.getElem_cons_succ, List.getElem_cons_zero, List.setIfInBounds_toArray, List.set_cons_zero, List.set_cons_succ]
          refine wpAnyH_take (i := 7) (v := ?_) rfl (by kernel_rfl) (by kernel_rfl) (by kernel_rfl) (fun _ _ _ h => h) (Or.inl ⟨by rfl, ?_⟩) (by assumption) ?_
          rotate_left
          · intro w hSw
            (try dsimp only at hSw)
            go_simp
            all_goals with_reducible rfl
          try simp only [Act.put, List.getElem_toArray, List.getElem_cons_succ, List.getElem_cons_zero, List.setIfInBounds_toArray, List.set_cons_zero, List.set_cons_succ]
          refine wpAnyH_take (i := 8) (v := ?_) rfl (by kernel_rfl) (by kernel_rfl) (by kernel_rfl) (fun _ _ _ h => h) (Or.inl ⟨by rfl, ?_⟩) (by assumption) ?_
          rotate_left
          · intro w hSw
            (try dsimp only at hSw)
            go_simp
            all_goals with_reducible rfl
          try simp only [Act.put, List.getElem_toArray, List.getElem_cons_succ, List.getElem_cons_zero, List.setIfInBounds_toArray, List.set_cons_zero, List.set_cons_succ]
          refine wpAnyH_take (i := 9) (v := ?_) rfl (by kernel_rfl) (by kernel_rfl) (by kernel_rfl) (fun _ _ _ h => h) (Or.inl ⟨by rfl, ?_⟩) (by assumption) ?_
          rotate_left
          · intro w hSw
            (try dsimp only at hSw)
            go_simp
            all_goals with_reducible rfl
          try simp only [Act.put, List.getElem_toArray, List.getElem_cons_succ, List.getElem_cons_zero, List.setIfInBounds_toArray, List.set_cons_zero, List.set_cons_succ]
          refine wpAnyH_take (i := 10) (v := ?_) rfl (by kernel_rfl) (by kernel_rfl) (by kernel_rfl) (fun _ _ _ h => h) (Or.inl ⟨by rfl, ?_⟩) (by assumption) ?_
          rotate_left
          · intro w hSw
            (try dsimp only at hSw)
            go_simp
            all_goals with_reducible rfl
          try simp only [Act.put, List.getElem_toArray, List.getElem_cons_succ, List.getElem_cons_zero, List.setIfInBounds_toArray, List.set_cons_zero, List.set_cons_succ]
          refine wpAnyH_done (by kernel_rfl) ?_ _
          clear hHeld
          go_wp2
          go_roundw
          case rel => exact ⟨k + 1, by have := HB.out.2.2; omega, by go_num, HT.out (by trivial), Below.drew HB.out.1⟩
          case measure => have := HB.out.2.2; simp [intOf]; omega
        · have q1 : (u2 != v2) = true := by simp [h2]
          have q2 : (u2 == v2) = false := by simp [h2]
          have HH := Lib.hid h2
          clear h2
          go_wp2_with fail
          refine wp_region_held_drew (S := fun x' => x'.cell? ⟨w.heap.size, 2, none⟩ = some (.slice (some ⟨bx, ox, none⟩) xbands.length c1) ∧ x'.cell? ⟨w.heap.size + 1, 2, none⟩ = some (.slice (some ⟨bq, oq, none⟩) xbands.length d1) ∧ x'.cell? ⟨bx, ox + k * 2, none⟩ = some (.int .i64 u1) ∧ x'.cell? ⟨bx, ox + k * 2 + 1, none⟩ = some (.int .i64 u2) ∧ x'.cell? ⟨bq, oq + k * 2, none⟩ = some (.int .i64 u1) ∧ x'.cell? ⟨bq, oq + k * 2 + 1, none⟩ = some (.int .i64 v2)) (by kernel_rfl) ⟨kx, ky, e1, e2, e3, e4⟩ (fun hHeld => ?_)
          refine wpAnyH_take (i := 0) (v := ?_) rfl (by kernel_rfl) (by kernel_rfl) (by kernel_rfl) (fun _ _ _ h => h) (Or.inl ⟨by rfl, ?_⟩) (by assumption) ?_
          rotate_left
          · intro w hSw
            (try dsimp only at hSw)
            go_simp
            all_goals with_reducible rfl
          try simp only [Act.put, List.getElem_toArray, List.getElem_cons_succ, List.getElem_cons_zero, List.setIfInBounds_toArray, List.set_cons_zero, List.set_cons_succ]
          refine wpAnyH_take (i := 1) (v := ?_) rfl (by kernel_rfl) (by kernel_rfl) (by kernel_rfl) (fun _ _ _ h => h) (Or.inl ⟨by rfl, ?_⟩) (by assumption) ?_
          rotate_left
          · intro w hSw
            (try dsimp only at hSw)
            go_simp
            all_goals with_reducible rfl
          try simp only [Act.put, List.getElem_toArray, List.getElem_cons_succ, List.getElem_cons_zero, List.setIfInBounds_toArray, List.set_cons_zero, List.set_cons_succ]
          refine wpAnyH_take (i := 2) (v := ?_) rfl (by kernel_rfl) (by kernel_rfl) (by kernel_rfl) (fun _ _ _ h => h) (Or.inl ⟨by rfl, ?_⟩) (by assumption) ?_
          rotate_left
          · intro w hSw
            (try dsimp only at hSw)
            go_simp
            all_goals with_reducible rfl
          try simp only [Act.put, List.getElem_toArray, List.getElem_cons_succ, List.getElem_cons_zero, List.setIfInBounds_toArray, List.set_cons_zero, List.set_cons_succ]
          refine wpAnyH_take (i := 3) (v := ?_) rfl (by kernel_rfl) (by kernel_rfl) (by kernel_rfl) (fun _ _ _ h => h) (Or.inl ⟨by rfl, ?_⟩) (by assumption) ?_
          rotate_left
          · intro w hSw
            (try dsimp only at hSw)
            go_simp
            all_goals with_reducible rfl
          try simp only [Act.put, List.getElem_toArray, List.getElem_cons_succ, List.getElem_cons_zero, List.setIfInBounds_toArray, List.set_cons_zero, List.set_cons_succ]
          refine wpAnyH_take (i := 4) (v := ?_) rfl (by kernel_rfl) (by kernel_rfl) (by kernel_rfl) (fun _ _ _ h => h) (Or.inl ⟨by rfl, ?_⟩) (by assumption) ?_
          rotate_left
          · intro w hSw
            (try dsimp only at hSw)
            go_simp
            all_goals with_reducible rfl
          try simp only [Act.put, List.getElem_toArray, List.getElem_cons_succ, List.getElem_cons_zero, List.setIfInBounds_toArray, List.set_cons_zero, List.set_cons_succ]
          refine wpAnyH_take (i := 5) (v := ?_) rfl (by kernel_rfl) (by kernel_rfl) (by kernel_rfl) (fun _ _ _ h => h) (Or.inl ⟨by rfl, ?_⟩) (by assumption) ?_
          rotate_left
          · intro w hSw
            (try dsimp only at hSw)
            go_simp
            all_goals with_reducible rfl
          try simp only [Act.put, List.getElem_toArray, List.getElem_cons_succ, List.getElem_cons_zero, List.setIfInBounds_toArray, List.set_cons_zero, List.set_cons_succ]
          refine wpAnyH_take (i := 6) (v := ?_) rfl (by kernel_rfl) (by kernel_rfl) (by kernel_rfl) (fun _ _ _ h => h) (Or.inl ⟨by rfl, ?_⟩) (by assumption) ?_
          rotate_left
          · intro w hSw
            (try dsimp only at hSw)
            go_simp
            all_goals with_reducible rfl
          try simp only [Act.put, List.getElem_toArray, List.getElem_cons_succ, List.getElem_cons_zero, List.setIfInBounds_toArray, List.set_cons_zero, List.set_cons_succ]
          refine wpAnyH_take (i := 7) (v := ?_) rfl (by kernel_rfl) (by kernel_rfl) (by kernel_rfl) (fun _ _ _ h => h) (Or.inl ⟨by rfl, ?_⟩) (by assumption) ?_
          rotate_left
          · intro w hSw
            (try dsimp only at hSw)
            go_simp
            all_goals with_reducible rfl
          try simp only [Act.put, List.getElem_toArray, List.getElem_cons_succ, List.getElem_cons_zero, List.setIfInBounds_toArray, List.set_cons_zero, List.set_cons_succ]
          refine wpAnyH_take (i := 8) (v := ?_) rfl (by kernel_rfl) (by kernel_rfl) (by kernel_rfl) (fun _ _ _ h => h) (Or.inl ⟨by rfl, ?_⟩) (by assumption) ?_
          rotate_left
          · intro w hSw
            (try dsimp only at hSw)
            go_simp
            all_goals with_reducible rfl
          try simp only [Act.put, List.getElem_toArray, List.getElem_cons_succ, List.getElem_cons_zero, List.setIfInBounds_toArray, List.set_cons_zero, List.set_cons_succ]
          refine wpAnyH_take (i := 9) (v := ?_) rfl (by kernel_rfl) (by kernel_rfl) (by kernel_rfl) (fun _ _ _ h => h) (Or.inl ⟨by rfl, ?_⟩) (by assumption) ?_
          rotate_left
          · intro w hSw
            (try dsimp only at hSw)
            go_simp
            all_goals with_reducible rfl
          try simp only [Act.put, List.getElem_toArray, List.getElem_cons_succ, List.getElem_cons_zero, List.setIfInBounds_toArray, List.set_cons_zero, List.set_cons_succ]
          refine wpAnyH_take (i := 10) (v := ?_) rfl (by kernel_rfl) (by kernel_rfl) (by kernel_rfl) (fun _ _ _ h => h) (Or.inl ⟨by rfl, ?_⟩) (by assumption) ?_
          rotate_left
          · intro w hSw
            (try dsimp only at hSw)
            go_simp
            all_goals with_reducible rfl
          try simp only [Act.put, List.getElem_toArray, List.getElem_cons_succ, List.getElem_cons_zero, List.setIfInBounds_toArray, List.set_cons_zero, List.set_cons_succ]
          refine wpAnyH_done (by kernel_rfl) ?_ _
          clear hHeld
          go_wp2
          go_ret
          exact ⟨ret_bool (HZ.out (fun h => by injection h with h1 h2 h3 h4 h5 h6 h7 h8; have := HN.out h3; injection this with _ h9; exact HH.out h9)).symm, Below.drew (HXY.out.2.2.trans (HB.out.1.mono HXY.out.2.2.size))⟩
      · have q1 : (u1 != v1) = true := by simp [h1]
        have q2 : (u1 == v1) = false := by simp [h1]
        have HH := Lib.hid h1
        clear h1
        go_wp2_with fail
        refine wp_region_held_drew (S := fun x' => x'.cell? ⟨w.heap.size, 2, none⟩ = some (.slice (some ⟨bx, ox, none⟩) xbands.length c1) ∧ x'.cell? ⟨w.heap.size + 1, 2, none⟩ = some (.slice (some ⟨bq, oq, none⟩) xbands.length d1) ∧ x'.cell? ⟨bx, ox + k * 2, none⟩ = some (.int .i64 u1) ∧ x'.cell? ⟨bx, ox + k * 2 + 1, none⟩ = some (.int .i64 u2) ∧ x'.cell? ⟨bq, oq + k * 2, none⟩ = some (.int .i64 v1) ∧ x'.cell? ⟨bq, oq + k * 2 + 1, none⟩ = some (.int .i64 v2)) (by kernel_rfl) ⟨kx, ky, e1, e2, e3, e4⟩ (fun hHeld => ?_)
        refine wpAnyH_take (i := 0) (v := ?_) rfl (by kernel_rfl) (by kernel_rfl) (by kernel_rfl) (fun _ _ _ h => h) (Or.inl ⟨by rfl, ?_⟩) (by assumption) ?_
        rotate_left
        · intro w hSw
          (try dsimp only at hSw)
          go_simp
          all_goals with_reducible rfl
        try simp only [Act.put, List.getElem_toArray, List.getElem_cons_succ, List.getElem_cons_zero, List.setIfInBounds_toArray, List.set_cons_zero, List.set_cons_succ]
        refine wpAnyH_take (i := 1) (v := ?_) rfl (by kernel_rfl) (by kernel_rfl) (by kernel_rfl) (fun _ _ _ h => h) (Or.inl ⟨by rfl, ?_⟩) (by assumption) ?_
        rotate_left
        · intro w hSw
          (try dsimp only at hSw)
          go_simp
          all_goals with_reducible rfl
        try simp only [Act.put, List.getElem_toArray, List.getElem_cons_succ, List.getElem_cons_zero, List.setIfInBounds_toArray, List.set_cons_zero, List.set_cons_succ]
        refine wpAnyH_take (i := 2) (v := ?_) rfl (by kernel_rfl) (by kernel_rfl) (by kernel_rfl) (fun _ _ _ h => h) (Or.inl ⟨by rfl, ?_⟩) (by assumption) ?_
        rotate_left
        · intro w hSw
          (try dsimp only at hSw)
          go_simp
          all_goals with_reducible rfl
        try simp only [Act.put, List.getElem_toArray, List.getElem_cons_succ, List.getElem_cons_zero, List.setIfInBounds_toArray, List.set_cons_zero, List.set_cons_succ]
        refine wpAnyH_take (i := 3) (v := ?_) rfl (by kernel_rfl) (by kernel_rfl) (by kernel_rfl) (fun _ _ _ h => h) (Or.inl ⟨by rfl, ?_⟩) (by assumption) ?_
        rotate_left
        · intro w hSw
          (try dsimp only at hSw)
          go_simp
          all_goals with_reducible rfl
        try simp only [Act.put, List.getElem_toArray, List.getElem_cons_succ, List.getElem_cons_zero, List.setIfInBounds_toArray, List.set_cons_zero, List.set_cons_succ]
        refine wpAnyH_take (i := 4) (v := ?_) rfl (by kernel_rfl) (by kernel_rfl) (by kernel_rfl) (fun _ _ _ h => h) (Or.inl ⟨by rfl, ?_⟩) (by assumption) ?_
        rotate_left
        · intro w hSw
          (try dsimp only at hSw)
          go_simp
          all_goals with_reducible rfl
        try simp only [Act.put, List.getElem_toArray, List.getElem_cons_succ, List.getElem_cons_zero, List.setIfInBounds_toArray, List.set_cons_zero, List.set_cons_succ]
        refine wpAnyH_take (i := 5) (v := ?_) rfl (by kernel_rfl) (by kernel_rfl) (by kernel_rfl) (fun _ _ _ h => h) (Or.inl ⟨by rfl, ?_⟩) (by assumption) ?_
        rotate_left
        · intro w hSw
          (try dsimp only at hSw)
          go_simp
          all_goals with_reducible rfl
        try simp only [Act.put, List.getElem_toArray, List.getElem_cons_succ, List.getElem_cons_zero, List.setIfInBounds_toArray, List.set_cons_zero, List.set_cons_succ]
        refine wpAnyH_take (i := 6) (v := ?_) rfl (by kernel_rfl) (by kernel_rfl) (by kernel_rfl) (fun _ _ _ h => h) (Or.inl ⟨by rfl, ?_⟩) (by assumption) ?_
        rotate_left
        · intro w hSw
          (try dsimp only at hSw)
          go_simp
          all_goals with_reducible rfl
        try simp only [Act.put, List.getElem_toArray, List.getElem_cons_succ, List.getElem_cons_zero, List.setIfInBounds_toArray, List.set_cons_zero, List.set_cons_succ]
        refine wpAnyH_take (i := 7) (v := ?_) rfl (by kernel_rfl) (by kernel_rfl) (by kernel_rfl) (fun _ _ _ h => h) (Or.inl ⟨by rfl, ?_⟩) (by assumption) ?_
        rotate_left
        · intro w hSw
          (try dsimp only at hSw)
          go_simp
          all_goals with_reducible rfl
        try simp only [Act.put, List.getElem_toArray, List.getElem_cons_succ, List.getElem_cons_zero, List.setIfInBounds_toArray, List.set_cons_zero, List.set_cons_succ]
        refine wpAnyH_take (i := 8) (v := ?_) rfl (by kernel_rfl) (by kernel_rfl) (by kernel_rfl) (fun _ _ _ h => h) (Or.inl ⟨by rfl, ?_⟩) (by assumption) ?_
        rotate_left
        · intro w hSw
          (try dsimp only at hSw)
          go_simp
          all_goals with_reducible rfl
        try simp only [Act.put, List.getElem_toArray, List.getElem_cons_succ, List.getElem_cons_zero, List.setIfInBounds_toArray, List.set_cons_zero, List.set_cons_succ]
        refine wpAnyH_take (i := 9) (v := ?_) rfl (by kernel_rfl) (by kernel_rfl) (by kernel_rfl) (fun _ _ _ h => h) (Or.inl ⟨by rfl, ?_⟩) (by assumption) ?_
        rotate_left
        · intro w hSw
          (try dsimp only at hSw)
          go_simp
          all_goals with_reducible rfl
        try simp only [Act.put, List.getElem_toArray, List.getElem_cons_succ, List.getElem_cons_zero, List.setIfInBounds_toArray, List.set_cons_zero, List.set_cons_succ]
        refine wpAnyH_take (i := 10) (v := ?_) rfl (by kernel_rfl) (by kernel_rfl) (by kernel_rfl) (fun _ _ _ h => h) (Or.inl ⟨by rfl, ?_⟩) (by assumption) ?_
        rotate_left
        · intro w hSw
          (try dsimp only at hSw)
          go_simp
          all_goals with_reducible rfl
        try simp only [Act.put, List.getElem_toArray, List.getElem_cons_succ, List.getElem_cons_zero, List.setIfInBounds_toArray, List.set_cons_zero, List.set_cons_succ]
        refine wpAnyH_done (by kernel_rfl) ?_ _
        clear hHeld
        go_wp2
        go_ret
        exact ⟨ret_bool (HZ.out (fun h => by injection h with h1 h2 h3 h4 h5 h6 h7 h8; have := HN.out h3; injection this with h9 _; exact HH.out h9)).symm, Below.drew (HXY.out.2.2.trans (HB.out.1.mono HXY.out.2.2.size))⟩
    · have hlt' : ¬ (k : Int) < (xbands.length : Int) := by omega
      have ek : k = xbands.length := by omega
      have HE2 := Lib.hid (take_all (by omega) (by have := HL.out.1; omega) (ek ▸ htk))
      have HB := Lib.hid hb
      clear hb htk
      clear ek hk hlt
      go_wp2_with fail
      clear kx ky hlt'
      go_loopw [6] (fun i wx => ∃ k : Nat, k ≤ xslots.length ∧ i = .int .i64 (k : Int) ∧ xslots.take k = yslots.take k ∧ Below wB.heap.size wB wx) (fun i _ => xslots.length - (intOf i).toNat)
      case atStart => exact ⟨0, Nat.zero_le _, rfl, by simp, HB.out⟩
      case round =>
        obtain ⟨k, hk, rfl, htk, hb⟩ := hrel
        have kx := cell_of_row wr w.heap.size 7 _ _ _ ((hb.block _ (lt_of_heap HXY.out.1)).trans HXY.out.1)
        have ky := cell_of_row wr (w.heap.size + 1) 7 _ _ _ ((hb.block _ (lt_of_heap HXY.out.2.1)).trans HXY.out.2.1)
        simp only [List.getElem?_toArray, List.getElem?_cons_zero, List.getElem?_cons_succ] at kx ky
        by_cases hlt : k < xslots.length
        · have hlt' : (k : Int) < (xslots.length : Int) := by omega
          have hk2 : k < yslots.length := by have := HL.out.2; omega
          obtain ⟨bx, ox, ea, hbx, hcx⟩ := HM.out.2.1.cell (by omega)
          obtain ⟨bq, oq, eb, hbq, hcq⟩ := HM.out.2.2.2.cell (by omega)
          have hb2 := HXY.out.2.2.trans (hb.mono HXY.out.2.2.size)
          have e1 := (hb2.cell (p := ⟨bx, ox + k * 2, none⟩) hbx).trans (hcx k hlt).1
          have e2 := (hb2.cell (p := ⟨bx, ox + k * 2 + 1, none⟩) hbx).trans (hcx k hlt).2
          have e3 := (hb2.cell (p := ⟨bq, oq + k * 2, none⟩) hbq).trans (hcq k hk2).1
          have e4 := (hb2.cell (p := ⟨bq, oq + k * 2 + 1, none⟩) hbq).trans (hcq k hk2).2
          rw [ea] at kx
          rw [eb] at ky
          have HT := Lib.hid (fun e => take_more hlt hk2 htk e)
          have HN : Hid (∀ h : xslots = yslots, xslots.getD k (0, 0) = yslots.getD k (0, 0)) := fun h => by rw [h]
          generalize xslots.getD k (0, 0) = u at HT HN e1 e2
          generalize yslots.getD k (0, 0) = v at HT HN e3 e4
          obtain ⟨u1, u2⟩ := u
          obtain ⟨v1, v2⟩ := v
          simp only at e1 e2 e3 e4
          have HB := Lib.hid (And.intro hb (And.intro hk hlt))
          clear hb hb2 hcx hcq htk hk ea eb
          by_cases h1 : u1 = v1
          · subst h1
            by_cases h2 : u2 = v2
            · subst h2
              go_wp2_with fail
              refine wp_region_held_drew (S := fun x' => x'.cell? ⟨w.heap.size, 7, none⟩ = some (.slice (some ⟨bx, ox, none⟩) xslots.length c2) ∧ x'.cell? ⟨w.heap.size + 1, 7, none⟩ = some (.slice (some ⟨bq, oq, none⟩) xslots.length d2) ∧ x'.cell? ⟨bx, ox + k * 2, none⟩ = some (.int .i64 u1) ∧ x'.cell? ⟨bx, ox + k * 2 + 1, none⟩ = some (.int .i64 u2) ∧ x'.cell? ⟨bq, oq + k * 2, none⟩ = some (.int .i64 u1) ∧ x'.cell? ⟨bq, oq + k * 2 + 1, none⟩ = some (.int .i64 u2)) (by kernel_rfl) ⟨kx, ky, e1, e2, e3, e4⟩ (fun hHeld => ?_)
              refine wpAnyH_take (i := 0) (v := ?_) rfl (by kernel_rfl) (by kernel_rfl) (by kernel_rfl) (fun _ _ _ h => h) (Or.inl ⟨by rfl, ?_⟩) (by assumption) ?_
              rotate_left
              · intro w hSw
                (try dsimp only at hSw)
                go_simp
                all_goals with_reducible rfl
              try simp only [Act.put, List.getElem_toArray, List.getElem_cons_succ, List.getElem_cons_zero, List.setIfInBounds_toArray, List.set_cons_zero, List.set_cons_succ]
              refine wpAnyH_take (i := 1) (v := ?_) rfl (by kernel_rfl) (by kernel_rfl) (by kernel_rfl) (fun _ _ _ h => h) (Or.inl ⟨by rfl, ?_⟩) (by assumption) ?_
              rotate_left
              · intro w hSw
                (try dsimp only at hSw)
                go_simp
                all_goals with_reducible rfl
              try simp only [Act.put, List.getElem_toArray, List.getElem_cons_succ, List.getElem_cons_zero, List.setIfInBounds_toArray, List.set_cons_zero, List.set_cons_succ]
              refine wpAnyH_take (i := 2) (v := ?_) rfl (by kernel_rfl) (by kernel_rfl) (by kernel_rfl) (fun _ _ _ h => h) (Or.inl ⟨by rfl, ?_⟩) (by assumption) ?_
              rotate_left
              · intro w hSw
                (try dsimp only at hSw)
                go_simp
                all_goals with_reducible rfl
              try simp only [Act.put, List.getElem_toArray, List.getElem_cons_succ, List.getElem_cons_zero, List.setIfInBounds_toArray, List.set_cons_zero, List.set_cons_succ]
              refine wpAnyH_take (i := 3) (v := ?_) rfl (by kernel_rfl) (by kernel_rfl) (by kernel_rfl) (fun _ _ _ h => h) (Or.inl ⟨by rfl, ?_⟩) (by assumption) ?_
              rotate_left
              · intro w hSw
                (try dsimp only at hSw)
                go_simp
                all_goals with_reducible rfl
              try simp only [Act.put, List.getElem_toArray, List.getElem_cons_succ, List.getElem_cons_zero, List.setIfInBounds_toArray, List.set_cons_zero, List.set_cons_succ]
              refine wpAnyH_take (i := 4) (v := ?_) rfl (by kernel_rfl) (by kernel_rfl) (by kernel_rfl) (fun _ _ _ h => h) (Or.inl ⟨by rfl, ?_⟩) (by assumption) ?_
              rotate_left
              · intro w hSw
                (try dsimp only at hSw)
                go_simp
                all_goals with_reducible rfl
              try simp only [Act.put, List.getElem_toArray, List.getElem_cons_succ, List.getElem_cons_zero, List.setIfInBounds_toArray, List.set_cons_zero, List.set_cons_succ]
              refine wpAnyH_take (i := 5) (v := ?_) rfl (by kernel_rfl) (by kernel_rfl) (by kernel_rfl) (fun _ _ _ h => h) (Or.inl ⟨by rfl, ?_⟩) (by assumption) ?_
              rotate_left
              · intro w hSw
                (try dsimp only at hSw)
                go_simp
                all_goals with_reducible rfl
              try simp only [Act.put, List.getElem_toArray, List.getElem_cons_succ, List.getElem_cons_zero, List.setIfInBounds_toArray, List.set_cons_zero, List.set_cons_succ]
              refine wpAnyH_take (i := 6) (v := ?_) rfl (by kernel_rfl) (by kernel_rfl) (by kernel_rfl) (fun _ _ _ h => h) (Or.inl ⟨by rfl, ?_⟩) (by assumption) ?_
              rotate_left
              · intro w hSw
                (try dsimp only at hSw)
                go_simp
                all_goals with_reducible rfl
              try simp only [Act.put, List.getElem_toArray, List.getElem_cons_succ, List.getElem_cons_zero, List.setIfInBounds_toArray, List.set_cons_zero, List.set_cons_succ]
              refine wpAnyH_take (i := 7) (v := ?_) rfl (by kernel_rfl) (by kernel_rfl) (by kernel_rfl) (fun _ _ _ h => h) (Or.inl ⟨by rfl, ?_⟩) (by assumption) ?_
              rotate_left
              · intro w hSw
                (try dsimp only at hSw)
                go_simp
                all_goals with_reducible rfl
              try simp only [Act.put, List.getElem_toArray, List.getElem_cons_succ, List.getElem_cons_zero, List.setIfInBounds_toArray, List.set_cons_zero, List.set_cons_succ]
              refine wpAnyH_take (i := 8) (v := ?_) rfl (by kernel_rfl) (by kernel_rfl) (by kernel_rfl) (fun _ _ _ h => h) (Or.inl ⟨by rfl, ?_⟩) (by assumption) ?_
              rotate_left
              · intro w hSw
                (try dsimp only at hSw)
                go_simp
                all_goals with_reducible rfl
              try simp only [Act.put, List.getElem_toArray, List.getElem_cons_succ, List.getElem_cons_zero, List.setIfInBounds_toArray, List.set_cons_zero, List.set_cons_succ]
              refine wpAnyH_take (i := 9) (v := ?_) rfl (by kernel_rfl) (by kernel_rfl) (by kernel_rfl) (fun _ _ _ h => h) (Or.inl ⟨by rfl, ?_⟩) (by assumption) ?_
              rotate_left
              · intro w hSw
                (try dsimp only at hSw)
                go_simp
                all_goals with_reducible rfl
              try simp only [Act.put, List.getElem_toArray, List.getElem_cons_succ, List.getElem_cons_zero, List.setIfInBounds_toArray, List.set_cons_zero, List.set_cons_succ]
              refine wpAnyH_take (i := 10) (v := ?_) rfl (by kernel_rfl) (by kernel_rfl) (by kernel_rfl) (fun _ _ _ h => h) (Or.inl ⟨by rfl, ?_⟩) (by assumption) ?_
              rotate_left
              · intro w hSw
                (try dsimp only at hSw)
                go_simp
                all_goals with_reducible rfl
              try simp only [Act.put, List.getElem_toArray, List.getElem_cons_succ, List.getElem_cons_zero, List.setIfInBounds_toArray, List.set_cons_zero, List.set_cons_succ]
              refine wpAnyH_done (by kernel_rfl) ?_ _
              clear hHeld
              go_wp2
              go_roundw
              case rel => exact ⟨k + 1, by have := HB.out.2.2; omega, by go_num, HT.out (by trivial), Below.drew HB.out.1⟩
              case measure => have := HB.out.2.2; simp [intOf]; omega
            · have q1 : (u2 != v2) = true := by simp [h2]
              have q2 : (u2 == v2) = false := by simp [h2]
              have HH := Lib.hid h2
              clear h2
              go_wp2_with fail
              refine wp_region_held_drew (S := fun x' => x'.cell? ⟨w.heap.size, 7, none⟩ = some (.slice (some ⟨bx, ox, none⟩) xslots.length c2) ∧ x'.cell? ⟨w.heap.size + 1, 7, none⟩ = some (.slice (some ⟨bq, oq, none⟩) xslots.length d2) ∧ x'.cell? ⟨bx, ox + k * 2, none⟩ = some (.int .i64 u1) ∧ x'.cell? ⟨bx, ox + k * 2 + 1, none⟩ = some (.int .i64 u2) ∧ x'.cell? ⟨bq, oq + k * 2, none⟩ = some (.int .i64 u1) ∧ x'.cell? ⟨bq, oq + k * 2 + 1, none⟩ = some (.int .i64 v2)) (by kernel_rfl) ⟨kx, ky, e1, e2, e3, e4⟩ (fun hHeld => ?_)
              refine wpAnyH_take (i := 0) (v := ?_) rfl (by kernel_rfl) (by kernel_rfl) (by kernel_rfl) (fun _ _ _ h => h) (Or.inl ⟨by rfl, ?_⟩) (by assumption) ?_
              rotate_left
              · intro w hSw
                (try dsimp only at hSw)
                go_simp
                all_goals with_reducible rfl
              try simp only [Act.put, List.getElem_toArray, List.getElem_cons_succ, List.getElem_cons_zero, List.setIfInBounds_toArray, List.set_cons_zero, List.set_cons_succ]
              refine wpAnyH_take (i := 1) (v := ?_) rfl (by kernel_rfl) (by kernel_rfl) (by kernel_rfl) (fun _ _ _ h => h) (Or.inl ⟨by rfl, ?_⟩) (by assumption) ?_
              rotate_left
              · intro w hSw
                (try dsimp only at hSw)
                go_simp
                all_goals with_reducible rfl
              try simp only [Act.put, List.getElem_toArray, List.getElem_cons_succ, List.getElem_cons_zero, List.setIfInBounds_toArray, List.set_cons_zero, List.set_cons_succ]
              refine wpAnyH_take (i := 2) (v := ?_) rfl (by kernel_rfl) (by kernel_rfl) (by kernel_rfl) (fun _ _ _ h => h) (Or.inl ⟨by rfl, ?_⟩) (by assumption) ?_
              rotate_left
              · intro w hSw
                (try dsimp only at hSw)
                go_simp
                all_goals with_reducible rfl
              try simp only [Act.put, List.getElem_toArray, List.getElem_cons_succ, List.getElem_cons_zero, List.setIfInBounds_toArray, List.set_cons_zero, List.set_cons_succ]
              refine wpAnyH_take (i := 3) (v := ?_) rfl (by kernel_rfl) (by kernel_rfl) (by kernel_rfl) (fun _ _ _ h => h) (Or.inl ⟨by rfl, ?_⟩) (by assumption) ?_
              rotate_left
              · intro w hSw
                (try dsimp only at hSw)
                go_simp
                all_goals with_reducible rfl
              try simp only [Act.put, List.getElem_toArray, List.getElem_cons_succ, List.getElem_cons_zero, List.setIfInBounds_toArray, List.set_cons_zero, List.set_cons_succ]
              refine wpAnyH_take (i := 4) (v := ?_) rfl (by kernel_rfl) (by kernel_rfl) (by kernel_rfl) (fun _ _ _ h => h) (Or.inl ⟨by rfl, ?_⟩) (by assumption) ?_
              rotate_left
              · intro w hSw
                (try dsimp only at hSw)
                go_simp
                all_goals with_reducible rfl
              try simp only [Act.put, List.getElem_toArray, List.getElem_cons_succ, List.getElem_cons_zero, List.setIfInBounds_toArray, List.set_cons_zero, List.set_cons_succ]
              refine wpAnyH_take (i := 5) (v := ?_) rfl (by kernel_rfl) (by kernel_rfl) (by kernel_rfl) (fun _ _ _ h => h) (Or.inl ⟨by rfl, ?_⟩) (by assumption) ?_
              rotate_left
              · intro w hSw
                (try dsimp only at hSw)
                go_simp
                all_goals with_reducible rfl
              try simp only [Act.put, List.getElem_toArray, List.getElem_cons_succ, List.getElem_cons_zero, List.setIfInBounds_toArray, List.set_cons_zero, List.set_cons_succ]
              refine wpAnyH_take (i := 6) (v := ?_) rfl (by kernel_rfl) (by kernel_rfl) (by kernel_rfl) (fun _ _ _ h => h) (Or.inl ⟨by rfl, ?_⟩) (by assumption) ?_
              rotate_left
              · intro w hSw
                (try dsimp only at hSw)
                go_simp
                all_goals with_reducible rfl
              try simp only [Act.put, List.getElem_toArray, List.getElem_cons_succ, List.getElem_cons_zero, List.setIfInBounds_toArray, List.set_cons_zero, List.set_cons_succ]
              refine wpAnyH_take (i := 7) (v := ?_) rfl (by kernel_rfl) (by kernel_rfl) (by kernel_rfl) (fun _ _ _ h => h) (Or.inl ⟨by rfl, ?_⟩) (by assumption) ?_
              rotate_left
              · intro w hSw
                (try dsimp only at hSw)
                go_simp
                all_goals with_reducible rfl
              try simp only [Act.put, List.getElem_toArray, List.getElem_cons_succ, List.getElem_cons_zero, List.setIfInBounds_toArray, List.set_cons_zero, List.set_cons_succ]
              refine wpAnyH_take (i := 8) (v := ?_) rfl (by kernel_rfl) (by kernel_rfl) (by kernel_rfl) (fun _ _ _ h => h) (Or.inl ⟨by rfl, ?_⟩) (by assumption) ?_
              rotate_left
              · intro w hSw
                (try dsimp only at hSw)
                go_simp
                all_goals with_reducible rfl
              try simp only [Act.put, List.getElem_toArray, List.getElem_cons_succ, List.getElem_cons_zero, List.setIfInBounds_toArray, List.set_cons_zero, List.set_cons_succ]
              refine wpAnyH_take (i := 9) (v := ?_) rfl (by kernel_rfl) (by kernel_rfl) (by kernel_rfl) (fun _ _ _ h => h) (Or.inl ⟨by rfl, ?_⟩) (by assumption) ?_
              rotate_left
              · intro w hSw
                (try dsimp only at hSw)
                go_simp
                all_goals with_reducible rfl
              try simp only [Act.put, List.getElem_toArray, List.getElem_cons_succ, List.getElem_cons_zero, List.setIfInBounds_toArray, List.set_cons_zero, List.set_cons_succ]
              refine wpAnyH_take (i := 10) (v := ?_) rfl (by kernel_rfl) (by kernel_rfl) (by kernel_rfl) (fun _ _ _ h => h) (Or.inl ⟨by rfl, ?_⟩) (by assumption) ?_
              rotate_left
              · intro w hSw
                (try dsimp only at hSw)
                go_simp
                all_goals with_reducible rfl
              try simp only [Act.put, List.getElem_toArray, List.getElem_cons_succ, List.getElem_cons_zero, List.setIfInBounds_toArray, List.set_cons_zero, List.set_cons_succ]
              refine wpAnyH_done (by kernel_rfl) ?_ _
              clear hHeld
              go_wp2
              go_ret
              exact ⟨ret_bool (HZ.out (fun h => by injection h with h1 h2 h3 h4 h5 h6 h7 h8; have := HN.out h8; injection this with _ h9; exact HH.out h9)).symm, Below.drew (HXY.out.2.2.trans (HB.out.1.mono HXY.out.2.2.size))⟩
          · have q1 : (u1 != v1) = true := by simp [h1]
            have q2 : (u1 == v1) = false := by simp [h1]
            have HH := Lib.hid h1
            clear h1
            go_wp2_with fail
            refine wp_region_held_drew (S := fun x' => x'.cell? ⟨w.heap.size, 7, none⟩ = some (.slice (some ⟨bx, ox, none⟩) xslots.length c2) ∧ x'.cell? ⟨w.heap.size + 1, 7, none⟩ = some (.slice (some ⟨bq, oq, none⟩) xslots.length d2) ∧ x'.cell? ⟨bx, ox + k * 2, none⟩ = some (.int .i64 u1) ∧ x'.cell? ⟨bx, ox + k * 2 + 1, none⟩ = some (.int .i64 u2) ∧ x'.cell? ⟨bq, oq + k * 2, none⟩ = some (.int .i64 v1) ∧ x'.cell? ⟨bq, oq + k * 2 + 1, none⟩ = some (.int .i64 v2)) (by kernel_rfl) ⟨kx, ky, e1, e2, e3, e4⟩ (fun hHeld => ?_)
            refine wpAnyH_take (i := 0) (v := ?_) rfl (by kernel_rfl) (by kernel_rfl) (by kernel_rfl) (fun _ _ _ h => h) (Or.inl ⟨by rfl, ?_⟩) (by assumption) ?_
            rotate_left
            · intro w hSw
              (try dsimp only at hSw)
              go_simp
              all_goals with_reducible rfl
            try simp only [Act.put, List.getElem_toArray, List.getElem_cons_succ, List.getElem_cons_zero, List.setIfInBounds_toArray, List.set_cons_zero, List.set_cons_succ]
            refine wpAnyH_take (i := 1) (v := ?_) rfl (by kernel_rfl) (by kernel_rfl) (by kernel_rfl) (fun _ _ _ h => h) (Or.inl ⟨by rfl, ?_⟩) (by assumption) ?_
            rotate_left
            · intro w hSw
              (try dsimp only at hSw)
              go_simp
              all_goals with_reducible rfl
            try simp only [Act.put, List.getElem_toArray, List.getElem_cons_succ, List.getElem_cons_zero, List.setIfInBounds_toArray, List.set_cons_zero, List.set_cons_succ]
            refine wpAnyH_take (i := 2) (v := ?_) rfl (by kernel_rfl) (by kernel_rfl) (by kernel_rfl) (fun _ _ _ h => h) (Or.inl ⟨by rfl, ?_⟩) (by assumption) ?_
            rotate_left
            · intro w hSw
              (try dsimp only at hSw)
              go_simp
              all_goals with_reducible rfl
            try simp only [Act.put, List.getElem_toArray, List.getElem_cons_succ, List.getElem_cons_zero, List.setIfInBounds_toArray, List.set_cons_zero, List.set_cons_succ]
            refine wpAnyH_take (i := 3) (v := ?_) rfl (by kernel_rfl) (by kernel_rfl) (by kernel_rfl) (fun _ _ _ h => h) (Or.inl ⟨by rfl, ?_⟩) (by assumption) ?_
            rotate_left
            · intro w hSw
              (try dsimp only at hSw)
              go_simp
              all_goals with_reducible rfl
            try simp only [Act.put, List.getElem_toArray, List.getElem_cons_succ, List.getElem_cons_zero, List.setIfInBounds_toArray, List.set_cons_zero, List.set_cons_succ]
            refine wpAnyH_take (i := 4) (v := ?_) rfl (by kernel_rfl) (by kernel_rfl) (by kernel_rfl) (fun _ _ _ h => h) (Or.inl ⟨by rfl, ?_⟩) (by assumption) ?_
            rotate_left
            · intro w hSw
              (try dsimp only at hSw)
              go_simp
              all_goals with_reducible rfl
            try simp only [Act.put, List.getElem_toArray, List.getElem_cons_succ, List.getElem_cons_zero, List.setIfInBounds_toArray, List.set_cons_zero, List.set_cons_succ]
            refine wpAnyH_take (i := 5) (v := ?_) rfl (by kernel_rfl) (by kernel_rfl) (by kernel_rfl) (fun _ _ _ h => h) (Or.inl ⟨by rfl, ?_⟩) (by assumption) ?_
            rotate_left
            · intro w hSw
              (try dsimp only at hSw)
              go_simp
              all_goals with_reducible rfl
            try simp only [Act.put, List.getElem_toArray, List.getElem_cons_succ, List.getElem_cons_zero, List.setIfInBounds_toArray, List.set_cons_zero, List.set_cons_succ]
            refine wpAnyH_take (i := 6) (v := ?_) rfl (by kernel_rfl) (by kernel_rfl) (by kernel_rfl) (fun _ _ _ h => h) (Or.inl ⟨by rfl, ?_⟩) (by assumption) ?_
            rotate_left
            · intro w hSw
              (try dsimp only at hSw)
              go_simp
              all_goals with_reducible rfl
            try simp only [Act.put, List.getElem_toArray, List.getElem_cons_succ, List.getElem_cons_zero, List.setIfInBounds_toArray, List.set_cons_zero, List.set_cons_succ]
            refine wpAnyH_take (i := 7) (v := ?_) rfl (by kernel_rfl) (by kernel_rfl) (by kernel_rfl) (fun _ _ _ h => h) (Or.inl ⟨by rfl, ?_⟩) (by assumption) ?_
            rotate_left
            · intro w hSw
              (try dsimp only at hSw)
              go_simp
              all_goals with_reducible rfl
            try simp only [Act.put, List.getElem_toArray, List.getElem_cons_succ, List.getElem_cons_zero, List.setIfInBounds_toArray, List.set_cons_zero, List.set_cons_succ]
            refine wpAnyH_take (i := 8) (v := ?_) rfl (by kernel_rfl) (by kernel_rfl) (by kernel_rfl) (fun _ _ _ h => h) (Or.inl ⟨by rfl, ?_⟩) (by assumption) ?_
            rotate_left
            · intro w hSw
              (try dsimp only at hSw)
              go_simp
              all_goals with_reducible rfl
            try simp only [Act.put, List.getElem_toArray, List.getElem_cons_succ, List.getElem_cons_zero, List.setIfInBounds_toArray, List.set_cons_zero, List.set_cons_succ]
            refine wpAnyH_take (i := 9) (v := ?_) rfl (by kernel_rfl) (by kernel_rfl) (by kernel_rfl) (fun _ _ _ h => h) (Or.inl ⟨by rfl, ?_⟩) (by assumption) ?_
            rotate_left
            · intro w hSw
              (try dsimp only at hSw)
              go_simp
              all_goals with_reducible rfl
            try simp only [Act.put, List.getElem_toArray, List.getElem_cons_succ, List.getElem_cons_zero, List.setIfInBounds_toArray, List.set_cons_zero, List.set_cons_succ]
            refine wpAnyH_take (i := 10) (v := ?_) rfl (by kernel_rfl) (by kernel_rfl) (by kernel_rfl) (fun _ _ _ h => h) (Or.inl ⟨by rfl, ?_⟩) (by assumption) ?_
            rotate_left
            · intro w hSw
              (try dsimp only at hSw)
              go_simp
              all_goals with_reducible rfl
            try simp only [Act.put, List.getElem_toArray, List.getElem_cons_succ, List.getElem_cons_zero, List.setIfInBounds_toArray, List.set_cons_zero, List.set_cons_succ]
            refine wpAnyH_done (by kernel_rfl) ?_ _
            clear hHeld
            go_wp2
            go_ret
            exact ⟨ret_bool (HZ.out (fun h => by injection h with h1 h2 h3 h4 h5 h6 h7 h8; have := HN.out h8; injection this with h9 _; exact HH.out h9)).symm, Below.drew (HXY.out.2.2.trans (HB.out.1.mono HXY.out.2.2.size))⟩
        · have hlt' : ¬ (k : Int) < (xslots.length : Int) := by omega
          have ek : k = xslots.length := by omega
          have HE7 := Lib.hid (take_all (by omega) (by have := HL.out.2; omega) (ek ▸ htk))
          have HB := Lib.hid hb
          clear hb htk
          go_wp2
          go_ret
          refine ⟨ret_bool ?_, HXY.out.2.2.trans (HB.out.mono HXY.out.2.2.size)⟩
          have e8 := HE2.out
          have e9 := HE7.out
          subst e8 e9
          exact (HY.out _).symm
end Go.Proofs.Ytnpakjdgcmbcnaa

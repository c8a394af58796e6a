/- SumTurns: the walk. -/
import Derived.Test.YteeljbnfemhggaaSumH
import Derived.Test.YteeljbnfemhggaaOwn
import Derived.Deep.RegionHeld3
import Derived.Deep.DrawnRows
namespace Go.Proofs.Yteeljbnfemhggaa
open Go.RowKit
open Crc
attribute [local go_sem ↓] Go.wp_at_zero Go.wp_at_succ

set_option maxHeartbeats 1600000 in
theorem sumTurns_in (a : Option Addr) (la ca : Nat) (xs : List Nat) (b : Option Addr) (lb cb : Nat) (ys : List Nat) (c : Option Addr) (lc cc : Nat) (zs : List Nat) (n : Nat) (w : World)
    (hsa : Sl w w.heap.size a la ca xs) (hsb : Sl w w.heap.size b lb cb ys) (hsc : Sl w w.heap.size c lc cc zs) (hna : n ≤ la) (hnb : n ≤ lb) (hnc : n ≤ lc) (hn : n ≤ 9000)
    (hmin : ∀ w, (Builtin.min_ #[3, 3, 3] 3 #[.int .i64 (la : Int), .int .i64 (lb : Int), .int .i64 (lc : Int)]).run Try.prog w = .ok (.int .i64 (n : Int)) w) :
    Calls Try.prog 5 #[.slice a la ca, .slice b lb cb, .slice c lc cc] w fun e w' => e = .returned (.bool true) ∧ Below w.heap.size w w' := by
  go_enter Try.func5, Try.ntmps5
  go_wp2_with fail
  refine (head_any _).mono ?_
  rintro e w1 ⟨rfl, hb1⟩
  obtain ⟨i8, hi8, hz0, hz1, hz2⟩ := info_parts info_u8
  go_wp2_with (at_make; refine wpList_make_full _ rfl (.tmp 22) (.tmp 22) 22 rfl w1.heap.size 5 i8 (.int .u8 0) 1 Try.underlying22 hi8 hz0 hz1 .i64 .i64 _ _ n rfl rfl rfl rfl (by rw [hz2]; omega) (by unfold maxLen; omega) (Nat.le_refl _) ?_; intro w2 hown hg)
  have hown1 := OwnB.made hown
  have hB2 : Below w1.heap.size w1 w2 := (Below.refl _ w1).grown hg (Nat.le_refl _) (fun k hk => by cases hk)
  clear hown hg hmin
  go_loopw [10] (fun i wr => ∃ (k : Nat) (us : List Nat), k ≤ n ∧ i = .int .i64 (k : Int) ∧ us.length = n ∧ (∀ c ∈ us, c < 256) ∧ (∀ j, j < k → us.getD j 0 = xs.getD j 0 ^^^ ys.getD j 0 ^^^ zs.getD j 0) ∧
      OwnB wr w1.heap.size 5 (.slice (some ⟨w1.heap.size, 0, none⟩) n n) us ∧ Below w1.heap.size w1 wr) (fun i _ => n - (intOf i).toNat)
  case atStart => exact ⟨0, _, by omega, rfl, List.length_replicate, by intro c hc; have := (List.mem_replicate.1 hc).2; omega, fun j hj => by omega, hown1, hB2⟩
  case round =>
    obtain ⟨k, us, hk, rfl, hul, hub, huj, how, hB⟩ := hrel
    have hB1 : Below w.heap.size w wr := hb1.trans (hB.mono hb1.size)
    by_cases hlt : k < n
    · obtain ⟨ba, oa, rfl, hba, hca⟩ := hsa.at_ (by omega)
      obtain ⟨bb, ob, rfl, hbb, hcb⟩ := hsb.at_ (by omega)
      obtain ⟨bc, oc, rfl, hbc, hcc⟩ := hsc.at_ (by omega)
      have xa := (hB1.cell (p := ⟨ba, oa + k, none⟩) hba).trans (hca k (by omega))
      have xb := (hB1.cell (p := ⟨bb, ob + k, none⟩) hbb).trans (hcb k (by omega))
      have xc := (hB1.cell (p := ⟨bc, oc + k, none⟩) hbc).trans (hcc k (by omega))
      obtain ⟨xo, xf⟩ := how.cell (k := k) (by omega)
      have la' := hsa.lt (k := k) (by omega)
      have lb' := hsb.lt (k := k) (by omega)
      have lc' := hsc.lt (k := k) (by omega)
      have Hj : Hid (∀ j, j < k + 1 → (us.set k (xs.getD k 0 ^^^ ys.getD k 0 ^^^ zs.getD k 0)).getD j 0 = xs.getD j 0 ^^^ ys.getD j 0 ^^^ zs.getD j 0) := by
        intro j hj
        rw [List.getD_eq_getElem?_getD, List.getElem?_set]
        by_cases e : k = j
        · subst e; rw [if_pos rfl, if_pos (by omega)]; rfl
        · rw [if_neg e, ← List.getD_eq_getElem?_getD]; exact huj j (by omega)
      have Ho := Lib.hid (how.set_ k (xs.getD k 0 ^^^ ys.getD k 0 ^^^ zs.getD k 0))
      have Hb := Lib.hid hB
      generalize xs.getD k 0 = x at xa la' Hj Ho
      generalize ys.getD k 0 = y at xb lb' Hj Ho
      generalize zs.getD k 0 = z at xc lc' Hj Ho
      have x1 : bits .xor .u8 (x : Int) (y : Int) = ((x ^^^ y : Nat) : Int) := u8_xor_nat x y la' lb'
      have x2 : bits .xor .u8 ((x ^^^ y : Nat) : Int) (z : Int) = ((x ^^^ y ^^^ z : Nat) : Int) := u8_xor_nat _ z (xor_lt8 la' lb') lc'
      have hz' := xor_lt8 (xor_lt8 la' lb') lc'
      generalize x ^^^ y ^^^ z = t at Hj Ho x2 hz'
      generalize x ^^^ y = s at x1 x2
      have i0 : (0 : Int) ≤ (k : Int) := by omega
      have i1 : (k : Int) < (n : Int) := by omega
      have i2 : (k : Int) < (la : Int) := by omega
      have i3 : (k : Int) < (lb : Int) := by omega
      have i4 : (k : Int) < (lc : Int) := by omega
      have na : ba < w1.heap.size := Nat.lt_of_lt_of_le hba hb1.size
      have nb : bb < w1.heap.size := Nat.lt_of_lt_of_le hbb hb1.size
      have nc : bc < w1.heap.size := Nat.lt_of_lt_of_le hbc hb1.size
      clear hca hcb hcc how hB hB1 huj hB2 hown1 hb1 hsa hsb hsc hba hbb hbc
      go_wp2_with fail
      go_region_held3 (fun w' => w'.cell? ⟨ba, oa + k, none⟩ = some (.int .u8 (x : Int)) ∧ w'.cell? ⟨bb, ob + k, none⟩ = some (.int .u8 (y : Int)) ∧ w'.cell? ⟨bc, oc + k, none⟩ = some (.int .u8 (z : Int)))
        (first | exact ⟨cell_set_far_drew xa (by show ba ≠ w1.heap.size; omega), cell_set_far_drew xb (by show bb ≠ w1.heap.size; omega), cell_set_far_drew xc (by show bc ≠ w1.heap.size; omega)⟩ | go_keep) (fail)
      go_wp2
      refine ⟨⟨k + 1, us.set k t, by omega, by go_num, by rw [List.length_set]; exact hul, ?_, Hj.out, OwnB.drew Ho.out, Below.drew (Hb.out.setCell (p := ⟨w1.heap.size, k, none⟩) (Nat.le_refl _) _)⟩, by simp [intOf]; omega⟩
      intro c hc
      rcases List.mem_or_eq_of_mem_set hc with h | h
      · exact hub c h
      · omega
    · have hge : (n : Int) ≤ (k : Int) := by omega
      have eu : us = xor3 (xs.take n) (ys.take n) (zs.take n) := xor3_of us xs ys zs n hul (by have := hsa.length; omega) (by have := hsb.length; omega) (by have := hsc.length; omega) (fun j hj => huj j (by omega))
      obtain ⟨ad, cd, hv, hsd⟩ := how.sl hub
      rw [hul] at hv hsd
      have e1 : ad = some ⟨w1.heap.size, 0, none⟩ := by injection hv with h1 h2 h3; exact h1.symm
      have e2 : cd = n := by injection hv with h1 h2 h3; exact h3.symm
      rw [e1, e2] at hsd
      clear hv e1 e2
      have ba := fun c hc => hsa.byte c (List.mem_of_mem_take (i := n) hc)
      have bb := fun c hc => hsb.byte c (List.mem_of_mem_take (i := n) hc)
      have bc := fun c hc => hsc.byte c (List.mem_of_mem_take (i := n) hc)
      have hx := more_xor3 (xs.take n) (ys.take n) (zs.take n) (by rw [List.length_take, List.length_take]; have := hsa.length; have := hsb.length; omega) (by rw [List.length_take, List.length_take]; have := hsa.length; have := hsc.length; omega) ba bb bc
      rw [← eu] at hx
      have sa := ((hsa.below hB1 (Nat.le_refl _)).more hB1.size).take hna
      have sb := ((hsb.below hB1 (Nat.le_refl _)).more hB1.size).take hnb
      have sc := ((hsc.below hB1 (Nat.le_refl _)).more hB1.size).take hnc
      have Od := Lib.hid (of_from (Nat.le_refl _) hsd)
      have Oa := Lib.hid (of_from (Nat.le_refl _) sa)
      have Ob := Lib.hid (of_from (Nat.le_refl _) sb)
      have Oc := Lib.hid (of_from (Nat.le_refl _) sc)
      have qa := more_lt 0 (xs.take n)
      have qb := more_lt 0 (ys.take n)
      have qc := more_lt 0 (zs.take n)
      generalize more 0 us = p at Od hx
      generalize more 0 (xs.take n) = x at Oa qa hx
      generalize more 0 (ys.take n) = y at Ob qb hx
      generalize more 0 (zs.take n) = z at Oc qc hx
      have x1 : bits .xor .u32 (x : Int) (y : Int) = ((x ^^^ y : Nat) : Int) := u32_xor_nat x y qa qb
      have x2 : bits .xor .u32 ((x ^^^ y : Nat) : Int) (z : Int) = ((x ^^^ y ^^^ z : Nat) : Int) := u32_xor_nat _ z (xor_lt32 qa qb) qc
      rw [← hx] at x2
      clear hx
      generalize x ^^^ y = s at x1 x2
      have c1 := run_cut_to (P := Try.prog) 22 5 Try.underlying22 info_u8 a la ca n (by have := hsa.le; omega)
      have c2 := run_cut_to (P := Try.prog) 22 5 Try.underlying22 info_u8 b lb cb n (by have := hsb.le; omega)
      have c3 := run_cut_to (P := Try.prog) 22 5 Try.underlying22 info_u8 c lc cc n (by have := hsc.le; omega)
      have Hb := Lib.hid hB1
      clear hB1 hB hB2 hown1 hb1 hsa hsb hsc sa sb sc hsd how huj hub eu ba bb bc
      have hS := Below.refl wr.heap.size wr
      go_wp2_with fail
      go_region_held3 (fun w' => Below wr.heap.size wr w') (first | assumption | exact Below.drew (by assumption)) (first
        | (go_at_call 9; with_reducible refine (Od.out _ (by assumption)).mono ?_; rintro e w' ⟨rfl, hb'⟩)
        | (go_at_call 9; with_reducible refine (Oa.out _ (by assumption)).mono ?_; rintro e w' ⟨rfl, hb'⟩)
        | (go_at_call 9; with_reducible refine (Ob.out _ (by assumption)).mono ?_; rintro e w' ⟨rfl, hb'⟩)
        | (go_at_call 9; with_reducible refine (Oc.out _ (by assumption)).mono ?_; rintro e w' ⟨rfl, hb'⟩))
      go_wp2
      go_ret
      exact ⟨by simp, Hb.out.trans (Below.mono (by assumption) Hb.out.size)⟩

theorem min3_any (x y z : Nat) (w : World) :
    (Builtin.min_ #[3, 3, 3] 3 #[.int .i64 (x : Int), .int .i64 (y : Int), .int .i64 (z : Int)]).run Try.prog w = .ok (.int .i64 ((min (min x y) z : Nat) : Int)) w := by
  have e1 : (if (y : Int) < (x : Int) then (y : Int) else (x : Int)) = ((min x y : Nat) : Int) := by split <;> omega
  have e2 : (if (z : Int) < ((min x y : Nat) : Int) then (z : Int) else ((min x y : Nat) : Int)) = ((min (min x y) z : Nat) : Int) := by split <;> omega
  simp only [Builtin.min_, List.foldlM, Builtin.min2, Sem.run_bind, Sem.run_pure, Result.andThen_ok]
  rw [e1, e2]

theorem sumTurns_walk (a : Option Addr) (la ca : Nat) (xs : List Nat) (b : Option Addr) (lb cb : Nat) (ys : List Nat) (c : Option Addr) (lc cc : Nat) (zs : List Nat) (w : World)
    (hsa : Sl w w.heap.size a la ca xs) (hsb : Sl w w.heap.size b lb cb ys) (hsc : Sl w w.heap.size c lc cc zs) :
    Calls Try.prog 5 #[.slice a la ca, .slice b lb cb, .slice c lc cc] w fun e w' => e = .returned (.bool true) ∧ Below w.heap.size w w' := by
  have hm := min3_any la lb lc
  have h1 : min (min la lb) lc ≤ la := by omega
  have h2 : min (min la lb) lc ≤ lb := by omega
  have h3 : min (min la lb) lc ≤ lc := by omega
  generalize min (min la lb) lc = n at hm h1 h2 h3
  by_cases hn : n ≤ 9000
  · exact sumTurns_in a la ca xs b lb cb ys c lc cc zs n w hsa hsb hsc h1 h2 h3 hn hm
  · have hg : (9000 : Int) < (n : Int) := by omega
    go_enter Try.func5, Try.ntmps5
    go_wp2_with fail
    refine (head_any _).mono ?_
    rintro e w1 ⟨rfl, hb1⟩
    go_wp2
    go_ret
    exact ⟨by simp, hb1⟩
end Go.Proofs.Yteeljbnfemhggaa

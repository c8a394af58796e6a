/- PolicyRow: the walk. -/
import Derived.Test.YtpgjjdpblilljaaPoG
import Derived.Deep.RegionHeld
import Derived.Deep.CutRange
namespace Go.Proofs.Ytpgjjdpblilljaa
set_option linter.unusedSimpArgs false
set_option linter.unusedVariables false
open Go.RowKit
open Evn Plc
attribute [local go_sem] Oper.semAt_some

theorem pnext_l {w : World} (p : Pl) {a1 a2 : Option Addr} {c1 c2 : Nat} (hok : okP p = true) (h1 : PRow w a1 p.bands.length c1 p.bands) (h2 : PRow w a2 p.slots.length c2 p.slots) (s e : Int) (h : Bool) (c u t : Int) (zs ze : Int) (zh : Bool) (n : Int)
    (hz : carry p (s, e, h) u = (zs, ze, zh)) (hn : many p (s, e, h) c u t = n) :
    Calls Try.prog 11 #[plV p a1 a2 c1 c2, .agg #[.int .i64 s, .int .i64 e, .bool h], .int .i64 c, .int .i64 u, .int .i64 t] w fun r w' =>
      r = .returned (.tuple #[.agg #[.int .i64 zs, .int .i64 ze, .bool zh], .int .i64 n]) ∧ Below w.heap.size w w' := by
  have := pnext_any hok h1 h2 s e h c u t
  rw [hz, hn] at this
  exact this
theorem rpnext_l {w : World} (p : Pl) {a1 a2 : Option Addr} {c1 c2 : Nat} (hok : okP p = true) (h1 : PRow w a1 p.bands.length c1 p.bands) (h2 : PRow w a2 p.slots.length c2 p.slots) (s e : Int) (h : Bool) (c u t : Int) (zs ze : Int) (zh : Bool) (n : Int)
    (hz : carry p (s, e, h) u = (zs, ze, zh)) (hn : many p (s, e, h) c u t = n) :
    Calls Try.prog 12 #[plV p a1 a2 c1 c2, .agg #[.int .i64 s, .int .i64 e, .bool h], .int .i64 c, .int .i64 u, .int .i64 t] w fun r w' =>
      r = .returned (.tuple #[.agg #[.int .i64 zs, .int .i64 ze, .bool zh], .int .i64 n]) ∧ Below w.heap.size w w' := by
  have := rpnext_any hok h1 h2 s e h c u t
  rw [hz, hn] at this
  exact this
theorem prcell {w x : World} {a : Option Addr} {n c : Nat} {cs : Nat → Value} (h : Row w w.heap.size a n c 1 cs) (hb : Below w.heap.size w x) {k : Nat} (hk : k < n) :
    ∃ b o, a = some ⟨b, o, none⟩ ∧ b < x.heap.size ∧ x.cell? ⟨b, o + k, none⟩ = some (cs k) := by
  obtain ⟨b, o, e, hlt, hc⟩ := h.at_ (by omega)
  exact ⟨b, o, e, Nat.lt_of_lt_of_le hlt hb.size, (hb.cell (p := ⟨b, o + k, none⟩) hlt).trans (hc k (by omega))⟩
theorem st_set {w : World} {g : Nat} {s e : Int} {h : Bool} (k : StAt w g s e h) (s2 e2 : Int) (h2 : Bool) : StAt (w.setCells g 0 [.int .i64 s2, .int .i64 e2, .bool h2]) g s2 e2 h2 :=
  heap_setCells_whole (cs := [Value.int .i64 s, .int .i64 e, .bool h]) [.int .i64 s2, .int .i64 e2, .bool h2] rfl k
theorem st_far {w : World} {g q : Nat} {s e : Int} {h : Bool} (k : StAt w g s e h) (hne : g ≠ q) (vs : List Value) : StAt (w.setCells q 0 vs) g s e h := (kx_far g q hne vs 0 w).trans k
theorem pb_far {w : World} {g q : Nat} {p : Pl} {a1 a2 : Option Addr} {c1 c2 : Nat} (k : PBx w g p a1 a2 c1 c2) (hne : g ≠ q) (vs : List Value) : PBx (w.setCells q 0 vs) g p a1 a2 c1 c2 := (kx_far g q hne vs 0 w).trans k
set_option maxRecDepth 100000 in
set_option maxHeartbeats 3200000 in
theorem policyRow_walk {w : World} {p : Pl} {a1 a2 : Option Addr} {c1 c2 : Nat} (h1 : PRow w a1 p.bands.length c1 p.bands) (h2 : PRow w a2 p.slots.length c2 p.slots) (q : Int) (hq : 0 ≤ q ∧ q ≤ 65535) (a : Option Addr) (n c0 : Nat) (ks : List Int) (hr : Row w w.heap.size a n c0 1 (intsC ks)) (hn : ks.length = n) (t : Int) (ht : 0 ≤ t ∧ t ≤ 65535) :
    Calls Try.prog 7 #[plV p a1 a2 c1 c2, .int .u16 q, .slice a n c0, .int .u16 t] w fun r w' => r = .returned (.bool true) ∧ Below w.heap.size w w' := by
  have hle := hr.le
  have hmx := hr.max
  unfold maxLen at hmx
  have RR := Lib.hid hr
  clear hr
  obtain ⟨C, hC⟩ : ∃ C, q.tmod 1001 = C := ⟨_, rfl⟩
  have hw1 : IntKind.i64.wrap q = q := by rw [IntKind.wrap_i64]; omega
  have hwC : IntKind.i64.wrap C = C := by rw [← hC, IntKind.wrap_i64]; have := Int.tmod_lt_of_pos q (show (0 : Int) < 1001 by decide); have := Int.lt_tmod_of_pos q (show (0 : Int) < 1001 by decide); omega
  have hwt : IntKind.i64.wrap t = t := by rw [IntKind.wrap_i64]; omega
  obtain ⟨x, hx⟩ : ∃ x, x = w.alloc (.cells #[.int .i64 p.kind, .int .i64 p.target, .slice a1 p.bands.length c1, .int .i64 p.kp, .int .i64 p.ki, .int .i64 p.kd, .int .i64 p.period, .slice a2 p.slots.length c2] 25) := ⟨_, rfl⟩
  have hB : Below w.heap.size w x := by rw [hx]; exact bel1 (Below.refl _ _) _
  have HP : Hid (PBx x w.heap.size p a1 a2 c1 c2) := by show PBx _ _ _ _ _ _ _; rw [hx]; exact heap_alloc_new _ _
  have H1 := Lib.hid (h1.on hB)
  have H2 := Lib.hid (h2.on hB)
  have HB := Lib.hid hB
  have HX := Lib.hid hx
  clear hB hx
  unfold plV
  go_enter Try.func7, Try.ntmps7
  go_wp2_with fail
  rw [← HX.out]
  refine (phead_any _).mono ?_
  rintro r w1 ⟨rfl, b⟩
  clear HX
  have HP := Lib.hid (HP.out.on b)
  have H1 := Lib.hid (H1.out.on b)
  have H2 := Lib.hid (H2.out.on b)
  have HB := Lib.hid (bel2 HB.out b)
  clear b
  go_wp2_with (first
    | (refine wpList_load_rowP (by first | rfl | kernel_rfl | (simp [Region.wanted, yielded])) 25 (.tmp 4) (by rfl) w.heap.size (by rfl) 25 _ (0, 0) _ HP.out Try.underlying25 (by rfl) (by kernel_rfl) ?_)
    | fail)
  refine (pright_any H1.out H2.out).mono ?_
  rintro r w2 ⟨rfl, b⟩
  have HP := Lib.hid (HP.out.on b)
  have H1 := Lib.hid (H1.out.on b)
  have H2 := Lib.hid (H2.out.on b)
  have HB := Lib.hid (bel2 HB.out b)
  clear b
  cases hr : okP p
  · clear hr
    go_wp2
    go_ret
    exact ⟨rfl, HB.out⟩
  have HO := Lib.hid hr
  clear hr
  have HPL := Lib.hid (lt_of_heap HP.out)
  clear H1 H2
  by_cases h9 : 300 < n
  · have h9' : (300 : Int) < (n : Int) := by omega
    go_wp2
    go_ret
    exact ⟨rfl, HB.out⟩
  have h9' : ¬ (300 : Int) < (n : Int) := by omega
  have h9 : n ≤ 300 := by omega
  have HN := Lib.hid h9
  clear h9
  go_upto_region 6 with fail
  have S0 : Hid (StAt (w2.alloc (.cells #[.int .i64 0, .int .i64 0, .bool false] 27)) w2.heap.size 0 0 false) := heap_alloc_new _ _
  have S1 : Hid (StAt ((w2.alloc (.cells #[.int .i64 0, .int .i64 0, .bool false] 27)).alloc (.cells #[.int .i64 0, .int .i64 0, .bool false] 27)) (w2.heap.size + 1) 0 0 false) := al2 _ _ _
  have b := bel1 (Below.refl w2.heap.size w2) (.cells #[.int .i64 0, .int .i64 0, .bool false] 27)
  have hp9 := HP.out.on b
  have hb9 := bel2 HB.out b
  have b := bel1 (Below.refl (w2.alloc (.cells #[.int .i64 0, .int .i64 0, .bool false] 27)).heap.size (w2.alloc (.cells #[.int .i64 0, .int .i64 0, .bool false] 27))) (.cells #[.int .i64 0, .int .i64 0, .bool false] 27)
  have S0 := Lib.hid (S0.out.on b)
  have HP := Lib.hid (PBx.on hp9 b)
  have HB := Lib.hid (bel2 hb9 b)
  have hgs := lt_of_heap HP.out
  have hg0 : w.heap.size ≠ w2.heap.size := by have := HPL.out; omega
  clear hp9 hb9 b hgs
  obtain ⟨gs, hg⟩ : ∃ gs, gs = w2.heap.size := ⟨_, rfl⟩
  rw [← hg] at S0 S1 hg0 ⊢
  have HG0 := Lib.hid hg0
  generalize (w2.alloc (.cells #[.int .i64 0, .int .i64 0, .bool false] 27)).alloc (.cells #[.int .i64 0, .int .i64 0, .bool false] 27) = w3 at *
  have HGL : Hid (w.heap.size ≤ gs) := by show _ ≤ _; rw [hg]; exact Nat.le_of_lt HPL.out
  clear hg hg0
  go_wp2_with fail
  go_loopw [12, 13, 14] (fun vc vd i wx => ∃ (k : Nat) (cc s e : Int) (h : Bool), k ≤ n ∧ i = .int .i64 (k : Int) ∧ vc = .int .i64 cc ∧ vd = .int .i64 cc ∧ StAt wx gs s e h ∧ StAt wx (gs + 1) s e h ∧ PBx wx w.heap.size p a1 a2 c1 c2 ∧ Below w.heap.size w wx) (fun _ _ i _ => n - (intOf i).toNat)
  case atStart => exact ⟨0, _, 0, 0, false, Nat.zero_le _, rfl, rfl, rfl, S0.out, S1.out, HP.out, HB.out⟩
  case round =>
    clear S0 S1 HP HB
    obtain ⟨k, cc, s, e, h, hk, rfl, rfl, rfl, hs0, hs1, hp, hb⟩ := hrel
    have S0 := Lib.hid hs0
    have S1 := Lib.hid hs1
    have HP := Lib.hid hp
    have HB := Lib.hid hb
    clear hs0 hs1 hp hb
    by_cases hlt : k < n
    · have hlt' : (k : Int) < (n : Int) := by omega
      have hk0 : (0 : Int) ≤ (k : Int) := by omega
      obtain ⟨b, o, rfl, hbl, hc⟩ := prcell RR.out HB.out hlt
      simp only [intsC] at hc
      generalize ks.getD k 0 = u at hc
      have HC := Lib.hid hc
      have HBL := Lib.hid hbl
      have HK := Lib.hid hlt
      obtain ⟨T, hT⟩ : ∃ T, t + (k : Int) = T := ⟨_, rfl⟩
      have hwk : IntKind.i64.wrap (k : Int) = (k : Int) := by rw [IntKind.wrap_i64]; have := HN.out; omega
      have hwT : IntKind.i64.wrap T = T := by rw [← hT, IntKind.wrap_i64]; have := HN.out; omega
      clear hc hbl hlt
      have H1 := Lib.hid (h1.on HB.out)
      have H2 := Lib.hid (h2.on HB.out)
      obtain ⟨zs, ze, zh, zq⟩ : ∃ s1 e1 h1, carry p (s, e, h) u = (s1, e1, h1) := ⟨_, _, _, rfl⟩
      obtain ⟨zn, zm⟩ : ∃ n, many p (s, e, h) cc u T = n := ⟨_, rfl⟩
      have zq := Lib.hid zq
      have zm := Lib.hid zm
      have HS1L := Lib.hid (lt_of_heap S1.out)
      go_wp2_with fail
      go_cut [15, 16] from 39 to 53 (fun vt vu wx => ∃ g, vt = .pointer (some ⟨g, 0, none⟩) ∧ vu = .int .i64 zn ∧ wr.heap.size ≤ g ∧ StAt wx g zs ze zh ∧ Below wr.heap.size wr wx)
      case first =>
        refine wp_region_held_drew (S := fun wy => wy.cell? ⟨w.heap.size, 0, none⟩ = some (.int .i64 p.kind) ∧ wy.cell? ⟨w.heap.size, 1, none⟩ = some (.int .i64 p.target) ∧ wy.cell? ⟨w.heap.size, 2, none⟩ = some (.slice a1 p.bands.length c1) ∧ wy.cell? ⟨w.heap.size, 3, none⟩ = some (.int .i64 p.kp) ∧ wy.cell? ⟨w.heap.size, 4, none⟩ = some (.int .i64 p.ki) ∧ wy.cell? ⟨w.heap.size, 5, none⟩ = some (.int .i64 p.kd) ∧ wy.cell? ⟨w.heap.size, 6, none⟩ = some (.int .i64 p.period) ∧ wy.cell? ⟨w.heap.size, 7, none⟩ = some (.slice a2 p.slots.length c2) ∧ wy.cell? ⟨b, o + k, none⟩ = some (.int .i64 u) ∧ wy.cell? ⟨gs, 0, none⟩ = some (.int .i64 s) ∧ wy.cell? ⟨gs, 1, none⟩ = some (.int .i64 e) ∧ wy.cell? ⟨gs, 2, none⟩ = some (.bool h) ∧ Below wr.heap.size wr wy) (by kernel_rfl) (⟨(cell_of_row _ _ _ _ _ _ (HP.out.on (Below.drew (Below.refl _ _)))).trans rfl, (cell_of_row _ _ _ _ _ _ (HP.out.on (Below.drew (Below.refl _ _)))).trans rfl, (cell_of_row _ _ _ _ _ _ (HP.out.on (Below.drew (Below.refl _ _)))).trans rfl, (cell_of_row _ _ _ _ _ _ (HP.out.on (Below.drew (Below.refl _ _)))).trans rfl, (cell_of_row _ _ _ _ _ _ (HP.out.on (Below.drew (Below.refl _ _)))).trans rfl, (cell_of_row _ _ _ _ _ _ (HP.out.on (Below.drew (Below.refl _ _)))).trans rfl, (cell_of_row _ _ _ _ _ _ (HP.out.on (Below.drew (Below.refl _ _)))).trans rfl, (cell_of_row _ _ _ _ _ _ (HP.out.on (Below.drew (Below.refl _ _)))).trans rfl, (Below.cell (p := ⟨b, o + k, none⟩) (Below.drew (Below.refl _ _)) HBL.out).trans HC.out, StAt.c S0.out (Below.drew (Below.refl _ _))⟩) (fun hHeld => ?_)
        refine wpAnyH_take (i := 0) (v := ?_) rfl (by kernel_rfl) (by kernel_rfl) (by kernel_rfl) (fun _ _ _ h => h) (Or.inl ⟨by rfl, ?_⟩) (by assumption) ?_
        rotate_left
        · intro w hSw
          (try dsimp only at hSw)
          go_simp
          all_goals with_reducible rfl
        try simp only [Act.put, List.getElem_toArray, List.getElem_cons_succ, List.getElem_cons_zero, List.setIfInBounds_toArray, List.set_cons_zero, List.set_cons_succ]
        refine wpAnyH_take (i := 1) (v := ?_) rfl (by kernel_rfl) (by kernel_rfl) (by kernel_rfl) (fun _ _ _ h => h) (Or.inl ⟨by rfl, ?_⟩) (by assumption) ?_
        rotate_left
        · intro w hSw
          (try dsimp only at hSw)
          go_simp
          all_goals with_reducible rfl
        try simp only [Act.put, List.getElem_toArray, List.getElem_cons_succ, List.getElem_cons_zero, List.setIfInBounds_toArray, List.set_cons_zero, List.set_cons_succ]
        refine wpAnyH_take (i := 2) (v := ?_) rfl (by kernel_rfl) (by kernel_rfl) (by kernel_rfl) (fun _ _ _ h => h) (Or.inl ⟨by rfl, ?_⟩) (by assumption) ?_
        rotate_left
        · intro w hSw
          (try dsimp only at hSw)
          go_simp
          all_goals with_reducible rfl
        try simp only [Act.put, List.getElem_toArray, List.getElem_cons_succ, List.getElem_cons_zero, List.setIfInBounds_toArray, List.set_cons_zero, List.set_cons_succ]
        refine wpAnyH_take (i := 3) (v := ?_) rfl (by kernel_rfl) (by kernel_rfl) (by kernel_rfl) (fun _ _ _ h => h) (Or.inl ⟨by rfl, ?_⟩) (by assumption) ?_
        rotate_left
        · intro w hSw
          (try dsimp only at hSw)
          go_simp
          all_goals with_reducible rfl
        try simp only [Act.put, List.getElem_toArray, List.getElem_cons_succ, List.getElem_cons_zero, List.setIfInBounds_toArray, List.set_cons_zero, List.set_cons_succ]
        refine wpAnyH_take (i := 4) (v := ?_) rfl (by kernel_rfl) (by kernel_rfl) (by kernel_rfl) (fun _ _ _ h => h) (Or.inl ⟨by rfl, ?_⟩) (by assumption) ?_
        rotate_left
        · intro w hSw
          (try dsimp only at hSw)
          go_simp
          all_goals with_reducible rfl
        try simp only [Act.put, List.getElem_toArray, List.getElem_cons_succ, List.getElem_cons_zero, List.setIfInBounds_toArray, List.set_cons_zero, List.set_cons_succ]
        refine wpAnyH_take (i := 5) (v := ?_) rfl (by kernel_rfl) (by kernel_rfl) (by kernel_rfl) (fun _ _ _ h => h) (Or.inl ⟨by rfl, ?_⟩) (by assumption) ?_
        rotate_left
        · intro w hSw
          (try dsimp only at hSw)
          go_simp
          all_goals with_reducible rfl
        try simp only [Act.put, List.getElem_toArray, List.getElem_cons_succ, List.getElem_cons_zero, List.setIfInBounds_toArray, List.set_cons_zero, List.set_cons_succ]
        refine wpAnyH_take (i := 6) (v := ?_) rfl (by kernel_rfl) (by kernel_rfl) (by kernel_rfl) (fun _ _ _ h => h) (Or.inl ⟨by rfl, ?_⟩) (by assumption) ?_
        rotate_left
        · intro w hSw
          (try dsimp only at hSw)
          go_simp
          all_goals with_reducible rfl
        try simp only [Act.put, List.getElem_toArray, List.getElem_cons_succ, List.getElem_cons_zero, List.setIfInBounds_toArray, List.set_cons_zero, List.set_cons_succ]
        refine wpAnyH_take (i := 7) (v := ?_) rfl (by kernel_rfl) (by kernel_rfl) (by kernel_rfl) (fun _ _ _ h => h) (Or.inl ⟨by rfl, ?_⟩) (by assumption) ?_
        rotate_left
        · intro w hSw
          (try dsimp only at hSw)
          go_simp
          all_goals with_reducible rfl
        try simp only [Act.put, List.getElem_toArray, List.getElem_cons_succ, List.getElem_cons_zero, List.setIfInBounds_toArray, List.set_cons_zero, List.set_cons_succ]
        refine wpAnyH_take (i := 8) (v := ?_) rfl (by kernel_rfl) (by kernel_rfl) (by kernel_rfl) (fun _ _ _ h => h) (Or.inl ⟨by rfl, ?_⟩) (by assumption) ?_
        rotate_left
        · intro w hSw
          (try dsimp only at hSw)
          go_simp
          all_goals with_reducible rfl
        try simp only [Act.put, List.getElem_toArray, List.getElem_cons_succ, List.getElem_cons_zero, List.setIfInBounds_toArray, List.set_cons_zero, List.set_cons_succ]
        refine wpAnyH_take (i := 9) (v := ?_) rfl (by kernel_rfl) (by kernel_rfl) (by kernel_rfl) (fun _ _ _ h => h) (Or.inl ⟨by rfl, ?_⟩) (by assumption) ?_
        rotate_left
        · intro w hSw
          (try dsimp only at hSw)
          go_simp
          all_goals with_reducible rfl
        try simp only [Act.put, List.getElem_toArray, List.getElem_cons_succ, List.getElem_cons_zero, List.setIfInBounds_toArray, List.set_cons_zero, List.set_cons_succ]
        refine wpAnyH_take (i := 10) (v := ?_) rfl (by kernel_rfl) (by kernel_rfl) (by kernel_rfl) (fun _ _ _ h => h) (Or.inl ⟨by rfl, ?_⟩) (by assumption) ?_
        rotate_left
        · intro w hSw
          (try dsimp only at hSw)
          go_simp
          all_goals with_reducible rfl
        try simp only [Act.put, List.getElem_toArray, List.getElem_cons_succ, List.getElem_cons_zero, List.setIfInBounds_toArray, List.set_cons_zero, List.set_cons_succ]
        have hB0 : Below wr.heap.size wr wr.drew := Below.drew (Below.refl _ _)
        clear hHeld
        generalize wr.drew = wa0 at hB0 ⊢
        refine wpAnyH_ready (rs := [11, 15]) (by kernel_rfl) (by simp) ?_
        refine AllReadyH.cons rfl (fun K hK => ?_) (AllReadyH.cons rfl (fun K hK => ?_) AllReadyH.nil)
        · rw [if_pos (by rfl)]
          go_simp
          go_at_call 11
          refine (pnext_l p HO.out (H1.out.on hB0) (H2.out.on hB0) s e h cc u T zs ze zh zn zq.out zm.out).mono ?_
          rintro r wa1 ⟨rfl, b⟩
          have hB1 := hB0.trans (b.mono hB0.size)
          clear b hB0
          refine hK.out _ _ ?_ (fun hHeld => ?_)
          · exact ⟨(cell_of_row _ _ _ _ _ _ (HP.out.on hB1)).trans rfl, (cell_of_row _ _ _ _ _ _ (HP.out.on hB1)).trans rfl, (cell_of_row _ _ _ _ _ _ (HP.out.on hB1)).trans rfl, (cell_of_row _ _ _ _ _ _ (HP.out.on hB1)).trans rfl, (cell_of_row _ _ _ _ _ _ (HP.out.on hB1)).trans rfl, (cell_of_row _ _ _ _ _ _ (HP.out.on hB1)).trans rfl, (cell_of_row _ _ _ _ _ _ (HP.out.on hB1)).trans rfl, (cell_of_row _ _ _ _ _ _ (HP.out.on hB1)).trans rfl, (Below.cell (p := ⟨b, o + k, none⟩) hB1 HBL.out).trans HC.out, StAt.c S0.out hB1⟩
          clear hK K
          try simp only [Act.put, List.getElem_toArray, List.getElem_cons_succ, List.getElem_cons_zero, List.setIfInBounds_toArray, List.set_cons_zero, List.set_cons_succ]
          refine wpAnyH_take (i := 12) (v := ?_) rfl (by kernel_rfl) (by kernel_rfl) (by kernel_rfl) (fun _ _ _ h => h) (Or.inl ⟨by rfl, ?_⟩) (by assumption) ?_
          rotate_left
          · intro w hSw
            (try dsimp only at hSw)
            go_simp
            all_goals with_reducible rfl
          try simp only [Act.put, List.getElem_toArray, List.getElem_cons_succ, List.getElem_cons_zero, List.setIfInBounds_toArray, List.set_cons_zero, List.set_cons_succ]
          refine wpAnyH_take (i := 13) (v := ?_) rfl (by kernel_rfl) (by kernel_rfl) (by kernel_rfl) (fun _ _ _ h => h) (Or.inl ⟨by rfl, ?_⟩) (by assumption) ?_
          rotate_left
          · intro w hSw
            (try dsimp only at hSw)
            go_simp
            all_goals with_reducible rfl
          try simp only [Act.put, List.getElem_toArray, List.getElem_cons_succ, List.getElem_cons_zero, List.setIfInBounds_toArray, List.set_cons_zero, List.set_cons_succ]
          refine wpAnyH_take (i := 14) (v := ?_) rfl (by kernel_rfl) (by kernel_rfl) (by kernel_rfl) (fun _ _ _ h => h) (Or.inl ⟨by rfl, ?_⟩) (by assumption) ?_
          rotate_left
          · intro w hSw
            (try dsimp only at hSw)
            go_simp
            all_goals with_reducible rfl
          try simp only [Act.put, List.getElem_toArray, List.getElem_cons_succ, List.getElem_cons_zero, List.setIfInBounds_toArray, List.set_cons_zero, List.set_cons_succ]
          refine wpAnyH_ready (rs := [15]) (by kernel_rfl) (by simp) ?_
          refine AllReadyH.cons rfl (fun K hK => ?_) AllReadyH.nil
          rw [if_pos (by rfl)]
          go_simp
          have hB2 := hB1.alloc hB1.size (.cells #[.int .i64 0, .int .i64 0, .bool false] 27)
          have Z := Lib.hid (heap_alloc_new wa1 (.cells #[.int .i64 0, .int .i64 0, .bool false] 27))
          have lz : wr.heap.size ≤ wa1.heap.size := hB1.size
          generalize wa1.alloc (.cells #[.int .i64 0, .int .i64 0, .bool false] 27) = wa2 at hB2 Z ⊢
          clear hB1
          refine hK.out _ _ ?_ (fun hHeld => ?_)
          · exact ⟨(cell_of_row _ _ _ _ _ _ (HP.out.on hB2)).trans rfl, (cell_of_row _ _ _ _ _ _ (HP.out.on hB2)).trans rfl, (cell_of_row _ _ _ _ _ _ (HP.out.on hB2)).trans rfl, (cell_of_row _ _ _ _ _ _ (HP.out.on hB2)).trans rfl, (cell_of_row _ _ _ _ _ _ (HP.out.on hB2)).trans rfl, (cell_of_row _ _ _ _ _ _ (HP.out.on hB2)).trans rfl, (cell_of_row _ _ _ _ _ _ (HP.out.on hB2)).trans rfl, (cell_of_row _ _ _ _ _ _ (HP.out.on hB2)).trans rfl, (Below.cell (p := ⟨b, o + k, none⟩) hB2 HBL.out).trans HC.out, StAt.c S0.out hB2⟩
          clear hK K
          try simp only [Act.put, List.getElem_toArray, List.getElem_cons_succ, List.getElem_cons_zero, List.setIfInBounds_toArray, List.set_cons_zero, List.set_cons_succ]
          refine wpAnyH_ready (rs := [16]) (by kernel_rfl) (by simp) ?_
          refine AllReadyH.cons rfl (fun K hK => ?_) AllReadyH.nil
          rw [if_pos (by rfl)]
          refine wp_store_mid 27 (.tmp 15) (.tmp 52) (by rfl) wa1.heap.size 0 #[.int .i64 zs, .int .i64 ze, .bool zh] (by rfl) (by rfl) (there_of_block Z.out (by simp)) (by kernel_rfl) (by kernel_rfl) ?_
          have Z2 := Lib.hid (heap_setCells_whole (cs := [Value.int .i64 0, .int .i64 0, .bool false]) (#[.int .i64 zs, .int .i64 ze, .bool zh] : Array Value).toList rfl Z.out)
          have hB3 := below_setCells' wa1.heap.size lz (#[.int .i64 zs, .int .i64 ze, .bool zh] : Array Value).toList 0 hB2
          generalize wa2.setCells wa1.heap.size 0 (#[.int .i64 zs, .int .i64 ze, .bool zh] : Array Value).toList = wa3 at Z2 hB3 ⊢
          clear Z hB2
          refine hK.out _ _ ?_ (fun hHeld => ?_)
          · exact ⟨(cell_of_row _ _ _ _ _ _ (HP.out.on hB3)).trans rfl, (cell_of_row _ _ _ _ _ _ (HP.out.on hB3)).trans rfl, (cell_of_row _ _ _ _ _ _ (HP.out.on hB3)).trans rfl, (cell_of_row _ _ _ _ _ _ (HP.out.on hB3)).trans rfl, (cell_of_row _ _ _ _ _ _ (HP.out.on hB3)).trans rfl, (cell_of_row _ _ _ _ _ _ (HP.out.on hB3)).trans rfl, (cell_of_row _ _ _ _ _ _ (HP.out.on hB3)).trans rfl, (cell_of_row _ _ _ _ _ _ (HP.out.on hB3)).trans rfl, (Below.cell (p := ⟨b, o + k, none⟩) hB3 HBL.out).trans HC.out, StAt.c S0.out hB3⟩
          clear hK K
          try simp only [Act.put, List.getElem_toArray, List.getElem_cons_succ, List.getElem_cons_zero, List.setIfInBounds_toArray, List.set_cons_zero, List.set_cons_succ]
          refine wpAnyH_take (i := 17) (v := ?_) rfl (by kernel_rfl) (by kernel_rfl) (by kernel_rfl) (fun _ _ _ h => h) (Or.inl ⟨by rfl, ?_⟩) (by assumption) ?_
          rotate_left
          · intro w hSw
            (try dsimp only at hSw)
            go_simp
            all_goals with_reducible rfl
          try simp only [Act.put, List.getElem_toArray, List.getElem_cons_succ, List.getElem_cons_zero, List.setIfInBounds_toArray, List.set_cons_zero, List.set_cons_succ]
          refine wpAnyH_done (by kernel_rfl) ?_ _
          go_wp2_with fail
          go_meet
          exact ⟨_, rfl, rfl, lz, Z2.out, hB3⟩
        · rw [if_pos (by rfl)]
          go_simp
          have hB1 := hB0.alloc hB0.size (.cells #[.int .i64 0, .int .i64 0, .bool false] 27)
          have Z := Lib.hid (heap_alloc_new wa0 (.cells #[.int .i64 0, .int .i64 0, .bool false] 27))
          have lz : wr.heap.size ≤ wa0.heap.size := hB0.size
          generalize wa0.alloc (.cells #[.int .i64 0, .int .i64 0, .bool false] 27) = wa1 at hB1 Z ⊢
          clear hB0
          refine hK.out _ _ ?_ (fun hHeld => ?_)
          · exact ⟨(cell_of_row _ _ _ _ _ _ (HP.out.on hB1)).trans rfl, (cell_of_row _ _ _ _ _ _ (HP.out.on hB1)).trans rfl, (cell_of_row _ _ _ _ _ _ (HP.out.on hB1)).trans rfl, (cell_of_row _ _ _ _ _ _ (HP.out.on hB1)).trans rfl, (cell_of_row _ _ _ _ _ _ (HP.out.on hB1)).trans rfl, (cell_of_row _ _ _ _ _ _ (HP.out.on hB1)).trans rfl, (cell_of_row _ _ _ _ _ _ (HP.out.on hB1)).trans rfl, (cell_of_row _ _ _ _ _ _ (HP.out.on hB1)).trans rfl, (Below.cell (p := ⟨b, o + k, none⟩) hB1 HBL.out).trans HC.out, StAt.c S0.out hB1⟩
          clear hK K
          try simp only [Act.put, List.getElem_toArray, List.getElem_cons_succ, List.getElem_cons_zero, List.setIfInBounds_toArray, List.set_cons_zero, List.set_cons_succ]
          refine wpAnyH_ready (rs := [11]) (by kernel_rfl) (by simp) ?_
          refine AllReadyH.cons rfl (fun K hK => ?_) AllReadyH.nil
          rw [if_pos (by rfl)]
          go_simp
          go_at_call 11
          refine (pnext_l p HO.out (H1.out.on hB1) (H2.out.on hB1) s e h cc u T zs ze zh zn zq.out zm.out).mono ?_
          rintro r wa2 ⟨rfl, b⟩
          have hB2 := hB1.trans (b.mono hB1.size)
          have Z := Lib.hid ((b.block _ (lt_of_heap Z.out)).trans Z.out)
          clear b hB1
          refine hK.out _ _ ?_ (fun hHeld => ?_)
          · exact ⟨(cell_of_row _ _ _ _ _ _ (HP.out.on hB2)).trans rfl, (cell_of_row _ _ _ _ _ _ (HP.out.on hB2)).trans rfl, (cell_of_row _ _ _ _ _ _ (HP.out.on hB2)).trans rfl, (cell_of_row _ _ _ _ _ _ (HP.out.on hB2)).trans rfl, (cell_of_row _ _ _ _ _ _ (HP.out.on hB2)).trans rfl, (cell_of_row _ _ _ _ _ _ (HP.out.on hB2)).trans rfl, (cell_of_row _ _ _ _ _ _ (HP.out.on hB2)).trans rfl, (cell_of_row _ _ _ _ _ _ (HP.out.on hB2)).trans rfl, (Below.cell (p := ⟨b, o + k, none⟩) hB2 HBL.out).trans HC.out, StAt.c S0.out hB2⟩
          clear hK K
          try simp only [Act.put, List.getElem_toArray, List.getElem_cons_succ, List.getElem_cons_zero, List.setIfInBounds_toArray, List.set_cons_zero, List.set_cons_succ]
          refine wpAnyH_take (i := 12) (v := ?_) rfl (by kernel_rfl) (by kernel_rfl) (by kernel_rfl) (fun _ _ _ h => h) (Or.inl ⟨by rfl, ?_⟩) (by assumption) ?_
          rotate_left
          · intro w hSw
            (try dsimp only at hSw)
            go_simp
            all_goals with_reducible rfl
          try simp only [Act.put, List.getElem_toArray, List.getElem_cons_succ, List.getElem_cons_zero, List.setIfInBounds_toArray, List.set_cons_zero, List.set_cons_succ]
          refine wpAnyH_take (i := 13) (v := ?_) rfl (by kernel_rfl) (by kernel_rfl) (by kernel_rfl) (fun _ _ _ h => h) (Or.inl ⟨by rfl, ?_⟩) (by assumption) ?_
          rotate_left
          · intro w hSw
            (try dsimp only at hSw)
            go_simp
            all_goals with_reducible rfl
          try simp only [Act.put, List.getElem_toArray, List.getElem_cons_succ, List.getElem_cons_zero, List.setIfInBounds_toArray, List.set_cons_zero, List.set_cons_succ]
          refine wpAnyH_take (i := 14) (v := ?_) rfl (by kernel_rfl) (by kernel_rfl) (by kernel_rfl) (fun _ _ _ h => h) (Or.inl ⟨by rfl, ?_⟩) (by assumption) ?_
          rotate_left
          · intro w hSw
            (try dsimp only at hSw)
            go_simp
            all_goals with_reducible rfl
          try simp only [Act.put, List.getElem_toArray, List.getElem_cons_succ, List.getElem_cons_zero, List.setIfInBounds_toArray, List.set_cons_zero, List.set_cons_succ]
          refine wpAnyH_ready (rs := [16]) (by kernel_rfl) (by simp) ?_
          refine AllReadyH.cons rfl (fun K hK => ?_) AllReadyH.nil
          rw [if_pos (by rfl)]
          refine wp_store_mid 27 (.tmp 15) (.tmp 52) (by rfl) wa0.heap.size 0 #[.int .i64 zs, .int .i64 ze, .bool zh] (by rfl) (by rfl) (there_of_block Z.out (by simp)) (by kernel_rfl) (by kernel_rfl) ?_
          have Z2 := Lib.hid (heap_setCells_whole (cs := [Value.int .i64 0, .int .i64 0, .bool false]) (#[.int .i64 zs, .int .i64 ze, .bool zh] : Array Value).toList rfl Z.out)
          have hB3 := below_setCells' wa0.heap.size lz (#[.int .i64 zs, .int .i64 ze, .bool zh] : Array Value).toList 0 hB2
          generalize wa2.setCells wa0.heap.size 0 (#[.int .i64 zs, .int .i64 ze, .bool zh] : Array Value).toList = wa3 at Z2 hB3 ⊢
          clear Z hB2
          refine hK.out _ _ ?_ (fun hHeld => ?_)
          · exact ⟨(cell_of_row _ _ _ _ _ _ (HP.out.on hB3)).trans rfl, (cell_of_row _ _ _ _ _ _ (HP.out.on hB3)).trans rfl, (cell_of_row _ _ _ _ _ _ (HP.out.on hB3)).trans rfl, (cell_of_row _ _ _ _ _ _ (HP.out.on hB3)).trans rfl, (cell_of_row _ _ _ _ _ _ (HP.out.on hB3)).trans rfl, (cell_of_row _ _ _ _ _ _ (HP.out.on hB3)).trans rfl, (cell_of_row _ _ _ _ _ _ (HP.out.on hB3)).trans rfl, (cell_of_row _ _ _ _ _ _ (HP.out.on hB3)).trans rfl, (Below.cell (p := ⟨b, o + k, none⟩) hB3 HBL.out).trans HC.out, StAt.c S0.out hB3⟩
          clear hK K
          try simp only [Act.put, List.getElem_toArray, List.getElem_cons_succ, List.getElem_cons_zero, List.setIfInBounds_toArray, List.set_cons_zero, List.set_cons_succ]
          refine wpAnyH_take (i := 17) (v := ?_) rfl (by kernel_rfl) (by kernel_rfl) (by kernel_rfl) (fun _ _ _ h => h) (Or.inl ⟨by rfl, ?_⟩) (by assumption) ?_
          rotate_left
          · intro w hSw
            (try dsimp only at hSw)
            go_simp
            all_goals with_reducible rfl
          try simp only [Act.put, List.getElem_toArray, List.getElem_cons_succ, List.getElem_cons_zero, List.setIfInBounds_toArray, List.set_cons_zero, List.set_cons_succ]
          refine wpAnyH_done (by kernel_rfl) ?_ _
          go_wp2_with fail
          go_meet
          exact ⟨_, rfl, rfl, lz, Z2.out, hB3⟩
      case rest =>
      obtain ⟨g5, rfl, rfl, l5, V, b5⟩ := hcut
      generalize wc = w5 at *
      have V5 := Lib.hid V
      have S0 := Lib.hid (S0.out.on b5)
      have S1 := Lib.hid (S1.out.on b5)
      have HP := Lib.hid (HP.out.on b5)
      have H1 := Lib.hid (H1.out.on b5)
      have H2 := Lib.hid (H2.out.on b5)
      clear V
      have HC := Lib.hid ((b5.cell (p := ⟨b, o + k, none⟩) HBL.out).trans HC.out)
      have HBL := Lib.hid (Nat.lt_of_lt_of_le HBL.out b5.size)
      have HB := Lib.hid (bel2 HB.out b5)
      have hg5 : gs < g5 ∧ gs + 1 < g5 := by have := lt_of_heap S1.out; have := HS1L.out; omega
      have HG5 := Lib.hid hg5
      clear b5 hg5
      go_wp2_with fail
      have HV5L := Lib.hid (lt_of_heap V5.out)
      go_cut [17, 18] from 54 to 68 (fun vt vu wx => ∃ g, vt = .pointer (some ⟨g, 0, none⟩) ∧ vu = .int .i64 zn ∧ w5.heap.size ≤ g ∧ StAt wx g zs ze zh ∧ Below w5.heap.size w5 wx)
      case first =>
        refine wp_region_held_drew (S := fun wy => wy.cell? ⟨w.heap.size, 0, none⟩ = some (.int .i64 p.kind) ∧ wy.cell? ⟨w.heap.size, 1, none⟩ = some (.int .i64 p.target) ∧ wy.cell? ⟨w.heap.size, 2, none⟩ = some (.slice a1 p.bands.length c1) ∧ wy.cell? ⟨w.heap.size, 3, none⟩ = some (.int .i64 p.kp) ∧ wy.cell? ⟨w.heap.size, 4, none⟩ = some (.int .i64 p.ki) ∧ wy.cell? ⟨w.heap.size, 5, none⟩ = some (.int .i64 p.kd) ∧ wy.cell? ⟨w.heap.size, 6, none⟩ = some (.int .i64 p.period) ∧ wy.cell? ⟨w.heap.size, 7, none⟩ = some (.slice a2 p.slots.length c2) ∧ wy.cell? ⟨b, o + k, none⟩ = some (.int .i64 u) ∧ wy.cell? ⟨(gs + 1), 0, none⟩ = some (.int .i64 s) ∧ wy.cell? ⟨(gs + 1), 1, none⟩ = some (.int .i64 e) ∧ wy.cell? ⟨(gs + 1), 2, none⟩ = some (.bool h) ∧ Below w5.heap.size w5 wy) (by kernel_rfl) (⟨(cell_of_row _ _ _ _ _ _ (HP.out.on (Below.drew (Below.refl _ _)))).trans rfl, (cell_of_row _ _ _ _ _ _ (HP.out.on (Below.drew (Below.refl _ _)))).trans rfl, (cell_of_row _ _ _ _ _ _ (HP.out.on (Below.drew (Below.refl _ _)))).trans rfl, (cell_of_row _ _ _ _ _ _ (HP.out.on (Below.drew (Below.refl _ _)))).trans rfl, (cell_of_row _ _ _ _ _ _ (HP.out.on (Below.drew (Below.refl _ _)))).trans rfl, (cell_of_row _ _ _ _ _ _ (HP.out.on (Below.drew (Below.refl _ _)))).trans rfl, (cell_of_row _ _ _ _ _ _ (HP.out.on (Below.drew (Below.refl _ _)))).trans rfl, (cell_of_row _ _ _ _ _ _ (HP.out.on (Below.drew (Below.refl _ _)))).trans rfl, (Below.cell (p := ⟨b, o + k, none⟩) (Below.drew (Below.refl _ _)) HBL.out).trans HC.out, StAt.c S1.out (Below.drew (Below.refl _ _))⟩) (fun hHeld => ?_)
        refine wpAnyH_take (i := 0) (v := ?_) rfl (by kernel_rfl) (by kernel_rfl) (by kernel_rfl) (fun _ _ _ h => h) (Or.inl ⟨by rfl, ?_⟩) (by assumption) ?_
        rotate_left
        · intro w hSw
          (try dsimp only at hSw)
          go_simp
          all_goals with_reducible rfl
        try simp only [Act.put, List.getElem_toArray, List.getElem_cons_succ, List.getElem_cons_zero, List.setIfInBounds_toArray, List.set_cons_zero, List.set_cons_succ]
        refine wpAnyH_take (i := 1) (v := ?_) rfl (by kernel_rfl) (by kernel_rfl) (by kernel_rfl) (fun _ _ _ h => h) (Or.inl ⟨by rfl, ?_⟩) (by assumption) ?_
        rotate_left
        · intro w hSw
          (try dsimp only at hSw)
          go_simp
          all_goals with_reducible rfl
        try simp only [Act.put, List.getElem_toArray, List.getElem_cons_succ, List.getElem_cons_zero, List.setIfInBounds_toArray, List.set_cons_zero, List.set_cons_succ]
        refine wpAnyH_take (i := 2) (v := ?_) rfl (by kernel_rfl) (by kernel_rfl) (by kernel_rfl) (fun _ _ _ h => h) (Or.inl ⟨by rfl, ?_⟩) (by assumption) ?_
        rotate_left
        · intro w hSw
          (try dsimp only at hSw)
          go_simp
          all_goals with_reducible rfl
        try simp only [Act.put, List.getElem_toArray, List.getElem_cons_succ, List.getElem_cons_zero, List.setIfInBounds_toArray, List.set_cons_zero, List.set_cons_succ]
        refine wpAnyH_take (i := 3) (v := ?_) rfl (by kernel_rfl) (by kernel_rfl) (by kernel_rfl) (fun _ _ _ h => h) (Or.inl ⟨by rfl, ?_⟩) (by assumption) ?_
        rotate_left
        · intro w hSw
          (try dsimp only at hSw)
          go_simp
          all_goals with_reducible rfl
        try simp only [Act.put, List.getElem_toArray, List.getElem_cons_succ, List.getElem_cons_zero, List.setIfInBounds_toArray, List.set_cons_zero, List.set_cons_succ]
        refine wpAnyH_take (i := 4) (v := ?_) rfl (by kernel_rfl) (by kernel_rfl) (by kernel_rfl) (fun _ _ _ h => h) (Or.inl ⟨by rfl, ?_⟩) (by assumption) ?_
        rotate_left
        · intro w hSw
          (try dsimp only at hSw)
          go_simp
          all_goals with_reducible rfl
        try simp only [Act.put, List.getElem_toArray, List.getElem_cons_succ, List.getElem_cons_zero, List.setIfInBounds_toArray, List.set_cons_zero, List.set_cons_succ]
        refine wpAnyH_take (i := 5) (v := ?_) rfl (by kernel_rfl) (by kernel_rfl) (by kernel_rfl) (fun _ _ _ h => h) (Or.inl ⟨by rfl, ?_⟩) (by assumption) ?_
        rotate_left
        · intro w hSw
          (try dsimp only at hSw)
          go_simp
          all_goals with_reducible rfl
        try simp only [Act.put, List.getElem_toArray, List.getElem_cons_succ, List.getElem_cons_zero, List.setIfInBounds_toArray, List.set_cons_zero, List.set_cons_succ]
        refine wpAnyH_take (i := 6) (v := ?_) rfl (by kernel_rfl) (by kernel_rfl) (by kernel_rfl) (fun _ _ _ h => h) (Or.inl ⟨by rfl, ?_⟩) (by assumption) ?_
        rotate_left
        · intro w hSw
          (try dsimp only at hSw)
          go_simp
          all_goals with_reducible rfl
        try simp only [Act.put, List.getElem_toArray, List.getElem_cons_succ, List.getElem_cons_zero, List.setIfInBounds_toArray, List.set_cons_zero, List.set_cons_succ]
        refine wpAnyH_take (i := 7) (v := ?_) rfl (by kernel_rfl) (by kernel_rfl) (by kernel_rfl) (fun _ _ _ h => h) (Or.inl ⟨by rfl, ?_⟩) (by assumption) ?_
        rotate_left
        · intro w hSw
          (try dsimp only at hSw)
          go_simp
          all_goals with_reducible rfl
        try simp only [Act.put, List.getElem_toArray, List.getElem_cons_succ, List.getElem_cons_zero, List.setIfInBounds_toArray, List.set_cons_zero, List.set_cons_succ]
        refine wpAnyH_take (i := 8) (v := ?_) rfl (by kernel_rfl) (by kernel_rfl) (by kernel_rfl) (fun _ _ _ h => h) (Or.inl ⟨by rfl, ?_⟩) (by assumption) ?_
        rotate_left
        · intro w hSw
          (try dsimp only at hSw)
          go_simp
          all_goals with_reducible rfl
        try simp only [Act.put, List.getElem_toArray, List.getElem_cons_succ, List.getElem_cons_zero, List.setIfInBounds_toArray, List.set_cons_zero, List.set_cons_succ]
        refine wpAnyH_take (i := 9) (v := ?_) rfl (by kernel_rfl) (by kernel_rfl) (by kernel_rfl) (fun _ _ _ h => h) (Or.inl ⟨by rfl, ?_⟩) (by assumption) ?_
        rotate_left
        · intro w hSw
          (try dsimp only at hSw)
          go_simp
          all_goals with_reducible rfl
        try simp only [Act.put, List.getElem_toArray, List.getElem_cons_succ, List.getElem_cons_zero, List.setIfInBounds_toArray, List.set_cons_zero, List.set_cons_succ]
        refine wpAnyH_take (i := 10) (v := ?_) rfl (by kernel_rfl) (by kernel_rfl) (by kernel_rfl) (fun _ _ _ h => h) (Or.inl ⟨by rfl, ?_⟩) (by assumption) ?_
        rotate_left
        · intro w hSw
          (try dsimp only at hSw)
          go_simp
          all_goals with_reducible rfl
        try simp only [Act.put, List.getElem_toArray, List.getElem_cons_succ, List.getElem_cons_zero, List.setIfInBounds_toArray, List.set_cons_zero, List.set_cons_succ]
        have hB0 : Below w5.heap.size w5 w5.drew := Below.drew (Below.refl _ _)
        clear hHeld
        generalize w5.drew = wa0 at hB0 ⊢
        refine wpAnyH_ready (rs := [11, 15]) (by kernel_rfl) (by simp) ?_
        refine AllReadyH.cons rfl (fun K hK => ?_) (AllReadyH.cons rfl (fun K hK => ?_) AllReadyH.nil)
        · rw [if_pos (by rfl)]
          go_simp
          go_at_call 12
          refine (rpnext_l p HO.out (H1.out.on hB0) (H2.out.on hB0) s e h cc u T zs ze zh zn zq.out zm.out).mono ?_
          rintro r wa1 ⟨rfl, b⟩
          have hB1 := hB0.trans (b.mono hB0.size)
          clear b hB0
          refine hK.out _ _ ?_ (fun hHeld => ?_)
          · exact ⟨(cell_of_row _ _ _ _ _ _ (HP.out.on hB1)).trans rfl, (cell_of_row _ _ _ _ _ _ (HP.out.on hB1)).trans rfl, (cell_of_row _ _ _ _ _ _ (HP.out.on hB1)).trans rfl, (cell_of_row _ _ _ _ _ _ (HP.out.on hB1)).trans rfl, (cell_of_row _ _ _ _ _ _ (HP.out.on hB1)).trans rfl, (cell_of_row _ _ _ _ _ _ (HP.out.on hB1)).trans rfl, (cell_of_row _ _ _ _ _ _ (HP.out.on hB1)).trans rfl, (cell_of_row _ _ _ _ _ _ (HP.out.on hB1)).trans rfl, (Below.cell (p := ⟨b, o + k, none⟩) hB1 HBL.out).trans HC.out, StAt.c S1.out hB1⟩
          clear hK K
          try simp only [Act.put, List.getElem_toArray, List.getElem_cons_succ, List.getElem_cons_zero, List.setIfInBounds_toArray, List.set_cons_zero, List.set_cons_succ]
          refine wpAnyH_take (i := 12) (v := ?_) rfl (by kernel_rfl) (by kernel_rfl) (by kernel_rfl) (fun _ _ _ h => h) (Or.inl ⟨by rfl, ?_⟩) (by assumption) ?_
          rotate_left
          · intro w hSw
            (try dsimp only at hSw)
            go_simp
            all_goals with_reducible rfl
          try simp only [Act.put, List.getElem_toArray, List.getElem_cons_succ, List.getElem_cons_zero, List.setIfInBounds_toArray, List.set_cons_zero, List.set_cons_succ]
          refine wpAnyH_take (i := 13) (v := ?_) rfl (by kernel_rfl) (by kernel_rfl) (by kernel_rfl) (fun _ _ _ h => h) (Or.inl ⟨by rfl, ?_⟩) (by assumption) ?_
          rotate_left
          · intro w hSw
            (try dsimp only at hSw)
            go_simp
            all_goals with_reducible rfl
          try simp only [Act.put, List.getElem_toArray, List.getElem_cons_succ, List.getElem_cons_zero, List.setIfInBounds_toArray, List.set_cons_zero, List.set_cons_succ]
          refine wpAnyH_take (i := 14) (v := ?_) rfl (by kernel_rfl) (by kernel_rfl) (by kernel_rfl) (fun _ _ _ h => h) (Or.inl ⟨by rfl, ?_⟩) (by assumption) ?_
          rotate_left
          · intro w hSw
            (try dsimp only at hSw)
            go_simp
            all_goals with_reducible rfl
          try simp only [Act.put, List.getElem_toArray, List.getElem_cons_succ, List.getElem_cons_zero, List.setIfInBounds_toArray, List.set_cons_zero, List.set_cons_succ]
          refine wpAnyH_ready (rs := [15]) (by kernel_rfl) (by simp) ?_
          refine AllReadyH.cons rfl (fun K hK => ?_) AllReadyH.nil
          rw [if_pos (by rfl)]
          go_simp
          have hB2 := hB1.alloc hB1.size (.cells #[.int .i64 0, .int .i64 0, .bool false] 27)
          have Z := Lib.hid (heap_alloc_new wa1 (.cells #[.int .i64 0, .int .i64 0, .bool false] 27))
          have lz : w5.heap.size ≤ wa1.heap.size := hB1.size
          generalize wa1.alloc (.cells #[.int .i64 0, .int .i64 0, .bool false] 27) = wa2 at hB2 Z ⊢
          clear hB1
          refine hK.out _ _ ?_ (fun hHeld => ?_)
          · exact ⟨(cell_of_row _ _ _ _ _ _ (HP.out.on hB2)).trans rfl, (cell_of_row _ _ _ _ _ _ (HP.out.on hB2)).trans rfl, (cell_of_row _ _ _ _ _ _ (HP.out.on hB2)).trans rfl, (cell_of_row _ _ _ _ _ _ (HP.out.on hB2)).trans rfl, (cell_of_row _ _ _ _ _ _ (HP.out.on hB2)).trans rfl, (cell_of_row _ _ _ _ _ _ (HP.out.on hB2)).trans rfl, (cell_of_row _ _ _ _ _ _ (HP.out.on hB2)).trans rfl, (cell_of_row _ _ _ _ _ _ (HP.out.on hB2)).trans rfl, (Below.cell (p := ⟨b, o + k, none⟩) hB2 HBL.out).trans HC.out, StAt.c S1.out hB2⟩
          clear hK K
          try simp only [Act.put, List.getElem_toArray, List.getElem_cons_succ, List.getElem_cons_zero, List.setIfInBounds_toArray, List.set_cons_zero, List.set_cons_succ]
          refine wpAnyH_ready (rs := [16]) (by kernel_rfl) (by simp) ?_
          refine AllReadyH.cons rfl (fun K hK => ?_) AllReadyH.nil
          rw [if_pos (by rfl)]
          refine wp_store_mid 27 (.tmp 17) (.tmp 67) (by rfl) wa1.heap.size 0 #[.int .i64 zs, .int .i64 ze, .bool zh] (by rfl) (by rfl) (there_of_block Z.out (by simp)) (by kernel_rfl) (by kernel_rfl) ?_
          have Z2 := Lib.hid (heap_setCells_whole (cs := [Value.int .i64 0, .int .i64 0, .bool false]) (#[.int .i64 zs, .int .i64 ze, .bool zh] : Array Value).toList rfl Z.out)
          have hB3 := below_setCells' wa1.heap.size lz (#[.int .i64 zs, .int .i64 ze, .bool zh] : Array Value).toList 0 hB2
          generalize wa2.setCells wa1.heap.size 0 (#[.int .i64 zs, .int .i64 ze, .bool zh] : Array Value).toList = wa3 at Z2 hB3 ⊢
          clear Z hB2
          refine hK.out _ _ ?_ (fun hHeld => ?_)
          · exact ⟨(cell_of_row _ _ _ _ _ _ (HP.out.on hB3)).trans rfl, (cell_of_row _ _ _ _ _ _ (HP.out.on hB3)).trans rfl, (cell_of_row _ _ _ _ _ _ (HP.out.on hB3)).trans rfl, (cell_of_row _ _ _ _ _ _ (HP.out.on hB3)).trans rfl, (cell_of_row _ _ _ _ _ _ (HP.out.on hB3)).trans rfl, (cell_of_row _ _ _ _ _ _ (HP.out.on hB3)).trans rfl, (cell_of_row _ _ _ _ _ _ (HP.out.on hB3)).trans rfl, (cell_of_row _ _ _ _ _ _ (HP.out.on hB3)).trans rfl, (Below.cell (p := ⟨b, o + k, none⟩) hB3 HBL.out).trans HC.out, StAt.c S1.out hB3⟩
          clear hK K
          try simp only [Act.put, List.getElem_toArray, List.getElem_cons_succ, List.getElem_cons_zero, List.setIfInBounds_toArray, List.set_cons_zero, List.set_cons_succ]
          refine wpAnyH_take (i := 17) (v := ?_) rfl (by kernel_rfl) (by kernel_rfl) (by kernel_rfl) (fun _ _ _ h => h) (Or.inl ⟨by rfl, ?_⟩) (by assumption) ?_
          rotate_left
          · intro w hSw
            (try dsimp only at hSw)
            go_simp
            all_goals with_reducible rfl
          try simp only [Act.put, List.getElem_toArray, List.getElem_cons_succ, List.getElem_cons_zero, List.setIfInBounds_toArray, List.set_cons_zero, List.set_cons_succ]
          refine wpAnyH_done (by kernel_rfl) ?_ _
          go_wp2_with fail
          go_meet
          exact ⟨_, rfl, rfl, lz, Z2.out, hB3⟩
        · rw [if_pos (by rfl)]
          go_simp
          have hB1 := hB0.alloc hB0.size (.cells #[.int .i64 0, .int .i64 0, .bool false] 27)
          have Z := Lib.hid (heap_alloc_new wa0 (.cells #[.int .i64 0, .int .i64 0, .bool false] 27))
          have lz : w5.heap.size ≤ wa0.heap.size := hB0.size
          generalize wa0.alloc (.cells #[.int .i64 0, .int .i64 0, .bool false] 27) = wa1 at hB1 Z ⊢
          clear hB0
          refine hK.out _ _ ?_ (fun hHeld => ?_)
          · exact ⟨(cell_of_row _ _ _ _ _ _ (HP.out.on hB1)).trans rfl, (cell_of_row _ _ _ _ _ _ (HP.out.on hB1)).trans rfl, (cell_of_row _ _ _ _ _ _ (HP.out.on hB1)).trans rfl, (cell_of_row _ _ _ _ _ _ (HP.out.on hB1)).trans rfl, (cell_of_row _ _ _ _ _ _ (HP.out.on hB1)).trans rfl, (cell_of_row _ _ _ _ _ _ (HP.out.on hB1)).trans rfl, (cell_of_row _ _ _ _ _ _ (HP.out.on hB1)).trans rfl, (cell_of_row _ _ _ _ _ _ (HP.out.on hB1)).trans rfl, (Below.cell (p := ⟨b, o + k, none⟩) hB1 HBL.out).trans HC.out, StAt.c S1.out hB1⟩
          clear hK K
          try simp only [Act.put, List.getElem_toArray, List.getElem_cons_succ, List.getElem_cons_zero, List.setIfInBounds_toArray, List.set_cons_zero, List.set_cons_succ]
          refine wpAnyH_ready (rs := [11]) (by kernel_rfl) (by simp) ?_
          refine AllReadyH.cons rfl (fun K hK => ?_) AllReadyH.nil
          rw [if_pos (by rfl)]
          go_simp
          go_at_call 12
          refine (rpnext_l p HO.out (H1.out.on hB1) (H2.out.on hB1) s e h cc u T zs ze zh zn zq.out zm.out).mono ?_
          rintro r wa2 ⟨rfl, b⟩
          have hB2 := hB1.trans (b.mono hB1.size)
          have Z := Lib.hid ((b.block _ (lt_of_heap Z.out)).trans Z.out)
          clear b hB1
          refine hK.out _ _ ?_ (fun hHeld => ?_)
          · exact ⟨(cell_of_row _ _ _ _ _ _ (HP.out.on hB2)).trans rfl, (cell_of_row _ _ _ _ _ _ (HP.out.on hB2)).trans rfl, (cell_of_row _ _ _ _ _ _ (HP.out.on hB2)).trans rfl, (cell_of_row _ _ _ _ _ _ (HP.out.on hB2)).trans rfl, (cell_of_row _ _ _ _ _ _ (HP.out.on hB2)).trans rfl, (cell_of_row _ _ _ _ _ _ (HP.out.on hB2)).trans rfl, (cell_of_row _ _ _ _ _ _ (HP.out.on hB2)).trans rfl, (cell_of_row _ _ _ _ _ _ (HP.out.on hB2)).trans rfl, (Below.cell (p := ⟨b, o + k, none⟩) hB2 HBL.out).trans HC.out, StAt.c S1.out hB2⟩
          clear hK K
          try simp only [Act.put, List.getElem_toArray, List.getElem_cons_succ, List.getElem_cons_zero, List.setIfInBounds_toArray, List.set_cons_zero, List.set_cons_succ]
          refine wpAnyH_take (i := 12) (v := ?_) rfl (by kernel_rfl) (by kernel_rfl) (by kernel_rfl) (fun _ _ _ h => h) (Or.inl ⟨by rfl, ?_⟩) (by assumption) ?_
          rotate_left
          · intro w hSw
            (try dsimp only at hSw)
            go_simp
            all_goals with_reducible rfl
          try simp only [Act.put, List.getElem_toArray, List.getElem_cons_succ, List.getElem_cons_zero, List.setIfInBounds_toArray, List.set_cons_zero, List.set_cons_succ]
          refine wpAnyH_take (i := 13) (v := ?_) rfl (by kernel_rfl) (by kernel_rfl) (by kernel_rfl) (fun _ _ _ h => h) (Or.inl ⟨by rfl, ?_⟩) (by assumption) ?_
          rotate_left
          · intro w hSw
            (try dsimp only at hSw)
            go_simp
            all_goals with_reducible rfl
          try simp only [Act.put, List.getElem_toArray, List.getElem_cons_succ, List.getElem_cons_zero, List.setIfInBounds_toArray, List.set_cons_zero, List.set_cons_succ]
          refine wpAnyH_take (i := 14) (v := ?_) rfl (by kernel_rfl) (by kernel_rfl) (by kernel_rfl) (fun _ _ _ h => h) (Or.inl ⟨by rfl, ?_⟩) (by assumption) ?_
          rotate_left
          · intro w hSw
            (try dsimp only at hSw)
            go_simp
            all_goals with_reducible rfl
          try simp only [Act.put, List.getElem_toArray, List.getElem_cons_succ, List.getElem_cons_zero, List.setIfInBounds_toArray, List.set_cons_zero, List.set_cons_succ]
          refine wpAnyH_ready (rs := [16]) (by kernel_rfl) (by simp) ?_
          refine AllReadyH.cons rfl (fun K hK => ?_) AllReadyH.nil
          rw [if_pos (by rfl)]
          refine wp_store_mid 27 (.tmp 17) (.tmp 67) (by rfl) wa0.heap.size 0 #[.int .i64 zs, .int .i64 ze, .bool zh] (by rfl) (by rfl) (there_of_block Z.out (by simp)) (by kernel_rfl) (by kernel_rfl) ?_
          have Z2 := Lib.hid (heap_setCells_whole (cs := [Value.int .i64 0, .int .i64 0, .bool false]) (#[.int .i64 zs, .int .i64 ze, .bool zh] : Array Value).toList rfl Z.out)
          have hB3 := below_setCells' wa0.heap.size lz (#[.int .i64 zs, .int .i64 ze, .bool zh] : Array Value).toList 0 hB2
          generalize wa2.setCells wa0.heap.size 0 (#[.int .i64 zs, .int .i64 ze, .bool zh] : Array Value).toList = wa3 at Z2 hB3 ⊢
          clear Z hB2
          refine hK.out _ _ ?_ (fun hHeld => ?_)
          · exact ⟨(cell_of_row _ _ _ _ _ _ (HP.out.on hB3)).trans rfl, (cell_of_row _ _ _ _ _ _ (HP.out.on hB3)).trans rfl, (cell_of_row _ _ _ _ _ _ (HP.out.on hB3)).trans rfl, (cell_of_row _ _ _ _ _ _ (HP.out.on hB3)).trans rfl, (cell_of_row _ _ _ _ _ _ (HP.out.on hB3)).trans rfl, (cell_of_row _ _ _ _ _ _ (HP.out.on hB3)).trans rfl, (cell_of_row _ _ _ _ _ _ (HP.out.on hB3)).trans rfl, (cell_of_row _ _ _ _ _ _ (HP.out.on hB3)).trans rfl, (Below.cell (p := ⟨b, o + k, none⟩) hB3 HBL.out).trans HC.out, StAt.c S1.out hB3⟩
          clear hK K
          try simp only [Act.put, List.getElem_toArray, List.getElem_cons_succ, List.getElem_cons_zero, List.setIfInBounds_toArray, List.set_cons_zero, List.set_cons_succ]
          refine wpAnyH_take (i := 17) (v := ?_) rfl (by kernel_rfl) (by kernel_rfl) (by kernel_rfl) (fun _ _ _ h => h) (Or.inl ⟨by rfl, ?_⟩) (by assumption) ?_
          rotate_left
          · intro w hSw
            (try dsimp only at hSw)
            go_simp
            all_goals with_reducible rfl
          try simp only [Act.put, List.getElem_toArray, List.getElem_cons_succ, List.getElem_cons_zero, List.setIfInBounds_toArray, List.set_cons_zero, List.set_cons_succ]
          refine wpAnyH_done (by kernel_rfl) ?_ _
          go_wp2_with fail
          go_meet
          exact ⟨_, rfl, rfl, lz, Z2.out, hB3⟩
      case rest =>
      obtain ⟨g6, rfl, rfl, l6, V, b6⟩ := hcut
      generalize wc = w6 at *
      have V6 := Lib.hid V
      have S0 := Lib.hid (S0.out.on b6)
      have S1 := Lib.hid (S1.out.on b6)
      have HP := Lib.hid (HP.out.on b6)
      have V5 := Lib.hid (V5.out.on b6)
      clear V
      have HB := Lib.hid (bel2 HB.out b6)
      have hg6 : gs < g6 ∧ gs + 1 < g6 := by have := lt_of_heap V5.out; have := HV5L.out; have := HG5.out; omega
      have HG6 := Lib.hid hg6
      clear b6 hg6
      obtain ⟨ca0, ca1, ca2, _⟩ := StAt.c V5.out (Below.refl _ _)
      obtain ⟨cb0, cb1, cb2, _⟩ := StAt.c V6.out (Below.refl _ _)
      go_upto_region 16 with (first | (refine wpList_store_mid (by rfl) 27 (.tmp 10) (.tmp 77) (by rfl) gs 0 #[.int .i64 zs, .int .i64 ze, .bool zh] (by rfl) (by rfl) (there_of_block S0.out (by simp)) (by kernel_rfl) (by kernel_rfl) ?_) | fail)
      have Z0 := Lib.hid (st_set S0.out zs ze zh)
      have Z1 := Lib.hid (st_far S1.out (Nat.succ_ne_self gs) [.int .i64 zs, .int .i64 ze, .bool zh])
      have HP2 := Lib.hid (pb_far HP.out HG0.out [.int .i64 zs, .int .i64 ze, .bool zh])
      have V7 := Lib.hid (st_far V6.out (Nat.ne_of_gt HG6.out.1) [.int .i64 zs, .int .i64 ze, .bool zh])
      have HB2 := Lib.hid (below_setCells' gs HGL.out [.int .i64 zs, .int .i64 ze, .bool zh] 0 HB.out)
      clear S0 S1 HP HB V5 V6 ca0 ca1 ca2 cb0 cb1 cb2
      generalize w6.setCells gs 0 _ = w7 at *
      obtain ⟨cb0, cb1, cb2, _⟩ := StAt.c V7.out (Below.refl _ _)
      go_wp2_with (first | (refine wpList_store_mid (by rfl) 27 (.tmp 11) (.tmp 78) (by rfl) (gs + 1) 0 #[.int .i64 zs, .int .i64 ze, .bool zh] (by rfl) (by rfl) (there_of_block Z1.out (by simp)) (by kernel_rfl) (by kernel_rfl) ?_) | fail)
      go_roundw
      case rel => exact ⟨k + 1, zn, zs, ze, zh, HK.out, by go_num, by trivial, by trivial, st_far Z0.out (Nat.ne_of_lt (Nat.lt_succ_self gs)) _, st_set Z1.out zs ze zh, pb_far HP2.out (by have := HGL.out; omega) _, below_setCells' (gs + 1) (by have := HGL.out; omega) _ 0 HB2.out⟩
      case measure => have := HK.out; simp [intOf]; omega
    · have hlt' : ¬ (k : Int) < (n : Int) := by omega
      go_wp2
      go_ret
      exact ⟨rfl, HB.out⟩
end Go.Proofs.Ytpgjjdpblilljaa

/- FrameBack: the walk. -/
import Derived.Test.YtdabeelplblgdaaFrOne
namespace Go.Proofs.Ytdabeelplblgdaa
open Go.RowKit
open Crc Frm

set_option linter.unusedSimpArgs false in
set_option maxRecDepth 100000 in
set_option maxHeartbeats 1500000 in
theorem frameBack_in (f : Fr) (a : Option Addr) (ca : Nat) (m : Option Addr) (lm cm : Nat) (ms : List Nat) (b : Option Addr) (lb cb : Nat) (bs : List Nat) (w : World) (hs : Sl w w.heap.size a f.body.length ca f.body) (hm : Sl w w.heap.size m lm cm ms) (hb : Sl w w.heap.size b lb cb bs)
    (h1 : f.body.length ≤ 9000) (h2 : lm ≤ 9000) (h3 : lb ≤ 9000) :
    Calls Try.prog 4 #[.agg #[.int .i64 f.ty, .int .i64 f.seq, .slice a f.body.length ca], .slice m lm cm, .slice b lb cb] w fun e w' => e = .returned (.bool true) ∧ Below w.heap.size w w' := by
  have PF := Lib.hid (put_any f a ca)
  have RF := Lib.hid (right_any f a ca)
  have HS := Lib.hid (And.intro hs (And.intro hm hb))
  have i1 : ((f.body.length : Nat) : Int) ≤ 9000 := by omega
  have i2 : (lm : Int) ≤ 9000 := by omega
  have i3 : (lb : Int) ≤ 9000 := by omega
  clear hs hm hb
  go_enter Try.func4, Try.ntmps4
  go_wp2_with fail
  refine (head_any _).mono ?_
  rintro e w1 ⟨rfl, hb1⟩
  have K1 := Lib.hid ((One.start w f a ca).on hb1)
  obtain ⟨x0, x1, x2⟩ := K1.out.cells
  clear hb1
  go_wp2_with fail
  refine (PF.out w1 (K1.out.sl HS.out.1)).mono ?_
  rintro e w2 ⟨vx, rfl, hox, hb2⟩
  have K2 := Lib.hid (K1.out.on hb2)
  clear x0 x1 x2
  obtain ⟨ax, cx, hvx, hsx⟩ := hox.sl (put_byte f HS.out.1.byte)
  subst hvx
  have hxl := put_len_le f
  have hbx := put_byte f HS.out.1.byte
  have hown0 : OwnB (w2.alloc (.cells #[] 5)) w2.heap.size 5 (.slice (some ⟨w2.heap.size, 0, none⟩) 0 0) [] := OwnB.lit _ [] (Nat.le_refl _) (by decide)
  have hs2 := hsx.below ((Below.refl _ w2).alloc (Nat.le_refl _) (.cells #[] 5)) (Nat.le_refl _)
  have hm2 := HS.out.2.1.below K2.out.below (Nat.le_refl _)
  have hszw := K2.out.below.size
  have hmb := HS.out.2.1.byte
  have hml := HS.out.2.1.length
  have Hpl : Hid ((put f).length = (put f).length) := rfl
  obtain ⟨lx, hlx⟩ : ∃ l, l = (put f).length := ⟨_, rfl⟩
  rw [← hlx] at hs2 hsx hxl ⊢
  have HX := Lib.hid (And.intro hlx hsx)
  clear hox hb2 K1 PF hlx hsx Hpl
  go_wp2_with (first
    | (at_builtin; refine wpList_append_sl rfl (.tmp 34) (.tmp 35) _ rfl w2.heap.size _ Try.underlying22 info_u8 (.slice (some ⟨w2.heap.size, 0, none⟩) 0 0) [] rfl hown0 _ ax lx cx (put f) rfl hs2 (by simp; omega) (by simp) ?_; intro v3 w3 ho3 hg3 hat3; have hB3 : Below w2.heap.size w2 w3 := ((Below.refl _ w2).alloc (Nat.le_refl _) _).grown hg3 (by simp) (fun k hk => by simp [Value.ownBlock] at hk; omega))
    | (at_builtin; refine wpList_append_sl rfl (.tmp 36) (.tmp 37) _ rfl w2.heap.size _ Try.underlying22 info_u8 v3 _ rfl ho3 _ m lm cm ms rfl (hm2.below (hB3.mono hszw) (Nat.le_refl _)) (by have := HX.out.1; simp; omega) hB3.size ?_; intro v4 w4 ho4 hg4 hat4))
  rw [List.nil_append] at ho4
  have hB4 : Below w2.heap.size w2 w4 := hB3.grown hg4 hB3.size (fun k hk => (ho3.at_base hk).1)
  obtain ⟨a4, c4, hv4, hs4⟩ := ho4.sl (fun c hc => by
    rcases List.mem_append.1 hc with h | h
    · exact hbx c h
    · exact hmb c h)
  have hl4 : (put f ++ ms).length = lx + lm := by rw [List.length_append, hml, ← HX.out.1]
  rw [hl4] at hv4 hs4
  subst hv4
  have K4 := Lib.hid (K2.out.on hB4)
  have G4 := Lib.hid (get_any a4 (lx + lm) c4 (put f ++ ms) w4 hs4)
  clear ho4 hg4 hat4 ho3 hg3 hat3 hB3 hB4 hs4 hl4 hown0 hs2 hm2 hszw K2
  refine G4.out.mono ?_
  rintro e w5 ⟨ba, bc, rfl, hsb, hb5, _⟩
  have K5 := Lib.hid (K4.out.on hb5)
  have HG : Hid (f.right → get (put f ++ ms) = (f, lx, 0)) := fun h => by
    have e : put f = raw f := by unfold put; rw [if_pos h]
    rw [HX.out.1, e, get_raw f h, raw_len]
  clear hb5 K4 G4
  generalize get (put f ++ ms) = G at HG hsb ⊢
  obtain ⟨x, n, er⟩ := G
  simp only at hsb ⊢
  have KK := Lib.hid (K5.out.on ((Below.refl _ w5).alloc (Nat.le_refl _) (.cells #[.int .i64 x.ty, .int .i64 x.seq, .slice ba x.body.length bc] 24)))
  have hX : Hid ((w5.alloc (.cells #[.int .i64 x.ty, .int .i64 x.seq, .slice ba x.body.length bc] 24)).heap[w5.heap.size]? = some (.cells #[.int .i64 x.ty, .int .i64 x.seq, .slice ba x.body.length bc] 24 (0, 0)) ∧
      Sl (w5.alloc (.cells #[.int .i64 x.ty, .int .i64 x.seq, .slice ba x.body.length bc] 24)) (w5.alloc (.cells #[.int .i64 x.ty, .int .i64 x.seq, .slice ba x.body.length bc] 24)).heap.size ba x.body.length bc x.body) :=
    ⟨heap_alloc_new _ _, (hsb.below ((Below.refl _ w5).alloc (Nat.le_refl _) _) (Nat.le_refl _)).more (by simp)⟩
  clear hsb K5
  generalize hw6 : w5.alloc (.cells #[.int .i64 x.ty, .int .i64 x.seq, .slice ba x.body.length bc] 24) = w6 at KK hX
  go_upto_region 6 with fail
  try simp only [hw6]
  clear hw6
  have hpr : Hid (if f.right then lx = f.body.length + 11 else lx = 0) := by
    show if f.right then lx = f.body.length + 11 else lx = 0
    rw [HX.out.1]
    unfold put
    split
    · rw [raw_len]
    · rfl
  have hzz : Hid (w.heap.size < w6.heap.size) := lt_of_heap KK.out.one
  go_cut [80] from 15 (fun t wx => t = .bool false ∧ One w wx f a ca)
  case first =>
    obtain ⟨x0, x1, x2⟩ := KK.out.cells
    by_cases rf : f.right
    · have hl := hpr.out
      rw [if_pos rf] at hl
      rw [decide_eq_true rf] at RF
      have hGe := HG.out rf
      injection hGe with e1 e2
      injection e2 with e2 e3
      subst e1 e2 e3
      have r1 : ((n : Int) != 11 + ((x.body.length : Nat) : Int)) = false := by simp; omega
      have Hl := Lib.hid hl
      clear hl
      go_wp2_with fail
      refine (RF.out w6).mono ?_
      rintro e w7 ⟨rfl, hb7⟩
      have K7 := Lib.hid (KK.out.on hb7)
      have hx7 := (hb7.block w5.heap.size (lt_of_heap hX.out.1)).trans hX.out.1
      have hs7 := (hX.out.2.below hb7 (Nat.le_refl _)).more hb7.size
      have y0 := (cell_of_row w7 _ 0 _ _ _ hx7).trans rfl
      have y1 := (cell_of_row w7 _ 1 _ _ _ hx7).trans rfl
      have y2 := (cell_of_row w7 _ 2 _ _ _ hx7).trans rfl
      obtain ⟨z0, z1, z2⟩ := K7.out.cells'
      have H7 := Lib.hid hs7
      clear x0 x1 x2 hb7 hx7 hs7
      go_wp2_with fail
      refine (same_any (some ⟨w7.heap.size, 0, none⟩) 1 1 [x] (some ⟨w7.heap.size + 1, 0, none⟩) 1 1 [x] _ ?_ ?_).mono ?_
      · exact Frs.one (w1 := w7) (w := (w7.alloc _).alloc _) (f := x) ((heap_alloc_old _ _ (by simp)).trans (heap_alloc_new _ _)) rfl rfl rfl H7.out (((Below.refl _ _).alloc (Nat.le_refl _) _).alloc (by simp) _)
      · exact Frs.one (w1 := w7) (w := (w7.alloc _).alloc _) (f := x) (heap_alloc2_new _ _ _) rfl rfl rfl (K7.out.sl HS.out.1) (((Below.refl _ _).alloc (Nat.le_refl _) _).alloc (by simp) _)
      rintro e w8 ⟨rfl, hb8⟩
      try rw [decide_eq_true rfl]
      have hB8 := (((Below.refl w7.heap.size w7).alloc (Nat.le_refl _) _).alloc (by simp) _).trans (hb8.mono (by simp; omega))
      have K8 := Lib.hid (K7.out.on hB8)
      clear y0 y1 y2 z0 z1 z2 hb8 hB8 K7
      obtain ⟨x0, x1, x2⟩ := K8.out.cells
      go_wp2_with fail
      refine (RF.out w8).mono ?_
      rintro e w9 ⟨rfl, hb9⟩
      have K9 := Lib.hid (K8.out.on hb9)
      clear x0 x1 x2 hb9 K8
      go_wp2_with fail
      go_meet
      case rel => exact ⟨by first | rfl | simp, K9.out⟩
    · have hl := hpr.out
      rw [if_neg rf] at hl
      rw [decide_eq_false rf] at RF
      subst hl
      go_wp2_with fail
      refine (RF.out w6).mono ?_
      rintro e w7 ⟨rfl, hb7⟩
      have K7 := Lib.hid (KK.out.on hb7)
      clear x0 x1 x2 hb7
      obtain ⟨x0, x1, x2⟩ := K7.out.cells
      go_wp2_with fail
      refine (RF.out w7).mono ?_
      rintro e w9 ⟨rfl, hb9⟩
      have K9 := Lib.hid (K7.out.on hb9)
      clear x0 x1 x2 hb9 K7
      go_wp2_with fail
      go_meet
      case rel => exact ⟨by first | rfl | simp, K9.out⟩
  case rest =>
    obtain ⟨rfl, K7⟩ := hcut
    have K7 := Lib.hid K7
    clear KK hX HG hpr hzz HX RF
    have HB7 := Lib.hid ((HS.out.2.2.below K7.out.below (Nat.le_refl _)).more K7.out.below.size)
    have hlb := HS.out.2.2.length
    go_wp2_with fail
    refine (get_any b lb cb bs wc HB7.out).mono ?_
    rintro e w8 ⟨ya, yc, rfl, hsy, hb8, _⟩
    have KB8 := Lib.hid (K7.out.below.trans (hb8.mono K7.out.below.size))
    by_cases hok : (get bs).2.2 = 0
    · obtain ⟨hr, hg, hl, _, _⟩ := get_ok bs hok
      have hraw := raw_back bs HS.out.2.2.byte hok
      rw [hg] at hsy ⊢
      simp only at hsy ⊢
      have hput : put (frOf bs) = bs.take (szOf bs + 11) := by unfold put; rw [if_pos hr, hraw]
      generalize frOf bs = y at hr hsy hput ⊢
      obtain ⟨n, hn⟩ : ∃ n, n = szOf bs + 11 := ⟨_, rfl⟩
      rw [← hn] at hl hput ⊢
      have hn1 : n ≤ lb := by omega
      have hn2 : (n : Int) ≤ (lb : Int) := by omega
      have hbl := HB7.out.le
      have hS9 : Hid (Sl (w8.alloc (.cells #[.int .i64 y.ty, .int .i64 y.seq, .slice ya y.body.length yc] 24)) (w8.alloc (.cells #[.int .i64 y.ty, .int .i64 y.seq, .slice ya y.body.length yc] 24)).heap.size ya y.body.length yc y.body) := (hsy.below ((Below.refl _ _).alloc (Nat.le_refl _) _) (Nat.le_refl _)).more (by simp)
      have hH9 : Hid ((w8.alloc (.cells #[.int .i64 y.ty, .int .i64 y.seq, .slice ya y.body.length yc] 24)).heap[w8.heap.size]? = some (.cells #[.int .i64 y.ty, .int .i64 y.seq, .slice ya y.body.length yc] 24 (0, 0))) := heap_alloc_new _ _
      have hB9 : Hid (Below wc.heap.size wc (w8.alloc (.cells #[.int .i64 y.ty, .int .i64 y.seq, .slice ya y.body.length yc] 24))) := hb8.alloc hb8.size _
      generalize hw9 : w8.alloc (.cells #[.int .i64 y.ty, .int .i64 y.seq, .slice ya y.body.length yc] 24) = w9 at hS9 hH9 hB9
      have c1 := run_cut_to (P := Try.prog) 22 5 Try.underlying22 info_u8 b lb cb n (by omega)
      clear hb8 hsy hg hraw hn hok
      go_upto_region 11 with fail
      try simp only [hw9]
      clear hw9
      have RY := Lib.hid (right_any y ya yc)
      rw [decide_eq_true hr] at RY
      have PY := Lib.hid (put_any y ya yc)
      rw [hput] at PY
      have hh9 := hH9.out
      have q0 := (cell_of_row w9 _ 0 _ _ _ hh9).trans rfl
      have q1 := (cell_of_row w9 _ 1 _ _ _ hh9).trans rfl
      have q2 := (cell_of_row w9 _ 2 _ _ _ hh9).trans rfl
      clear hh9
      have hlt9 := lt_of_heap hH9.out
      have hbt : ∀ c ∈ bs.take n, c < 256 := fun c hc => HS.out.2.2.byte c (List.mem_of_mem_take hc)
      have hlt : (bs.take n).length = n := by rw [List.length_take]; omega
      have S9 := Lib.hid ((HB7.out.below hB9.out (Nat.le_refl _)).more hB9.out.size)
      refine wp_region_held_drew (S := (fun w' => w'.cell? ⟨w8.heap.size, 0, none⟩ = some (.int .i64 y.ty) ∧ w'.cell? ⟨w8.heap.size, 1, none⟩ = some (.int .i64 y.seq) ∧ w'.cell? ⟨w8.heap.size, 2, none⟩ = some (.slice ya y.body.length yc) ∧ (convert 22 9 (.slice b n cb)).run Try.prog w' = .ok (.string (strOf (bs.take n))) w')) (by kernel_rfl) ⟨q0, q1, q2, run_str (P := Try.prog) (S9.out.drew.take hn1) 22 5 9 Try.underlying22 Try.underlying5 Try.underlying9⟩ (fun hHeld => ?_)
      refine wpAnyH_take (i := 0) (v := ?_) rfl (by kernel_rfl) (by kernel_rfl) (by kernel_rfl) (fun _ _ _ h => h) (Or.inl ⟨by rfl, ?_⟩) (by assumption) ?_
      rotate_left
      · intro w hSw
        (try dsimp only at hSw)
        go_simp
        all_goals with_reducible rfl
      try simp only [Act.put, List.getElem_toArray, List.getElem_cons_succ, List.getElem_cons_zero, List.setIfInBounds_toArray, List.set_cons_zero, List.set_cons_succ]
      refine wpAnyH_take (i := 1) (v := ?_) rfl (by kernel_rfl) (by kernel_rfl) (by kernel_rfl) (fun _ _ _ h => h) (Or.inl ⟨by rfl, ?_⟩) (by assumption) ?_
      rotate_left
      · intro w hSw
        (try dsimp only at hSw)
        go_simp
        all_goals with_reducible rfl
      try simp only [Act.put, List.getElem_toArray, List.getElem_cons_succ, List.getElem_cons_zero, List.setIfInBounds_toArray, List.set_cons_zero, List.set_cons_succ]
      refine wpAnyH_take (i := 2) (v := ?_) rfl (by kernel_rfl) (by kernel_rfl) (by kernel_rfl) (fun _ _ _ h => h) (Or.inl ⟨by rfl, ?_⟩) (by assumption) ?_
      rotate_left
      · intro w hSw
        (try dsimp only at hSw)
        go_simp
        all_goals with_reducible rfl
      try simp only [Act.put, List.getElem_toArray, List.getElem_cons_succ, List.getElem_cons_zero, List.setIfInBounds_toArray, List.set_cons_zero, List.set_cons_succ]
      refine wpAnyH_ready (rs := [3]) (by kernel_rfl) (by simp) ?_
      refine AllReadyH.cons rfl (fun K hK => ?_) AllReadyH.nil
      rw [if_pos (by rfl)]
      go_simp
      go_at_call 14
      refine (RY.out w9.drew).mono ?_
      rintro e wa ⟨rfl, hba0⟩
      have hba : Below w9.heap.size w9 wa := below_drew_of hba0
      have d0 := (hba.cell (p := ⟨w8.heap.size, 0, none⟩) hlt9).trans q0
      have d1 := (hba.cell (p := ⟨w8.heap.size, 1, none⟩) hlt9).trans q1
      have d2 := (hba.cell (p := ⟨w8.heap.size, 2, none⟩) hlt9).trans q2
      have Sa := Lib.hid ((hS9.out.below hba (Nat.le_refl _)).more hba.size)
      have Ba := Lib.hid (hB9.out.trans (hba.mono hB9.out.size))
      have Ca := Lib.hid ((HB7.out.below Ba.out (Nat.le_refl _)).more Ba.out.size)
      have cba := run_str (P := Try.prog) (Ca.out.take hn1) 22 5 9 Try.underlying22 Try.underlying5 Try.underlying9
      refine hK.out _ _ ?_ (fun hHeld => ?_)
      · exact ⟨d0, d1, d2, cba⟩
      clear hK K
      try simp only [Act.put, List.getElem_toArray, List.getElem_cons_succ, List.getElem_cons_zero, List.setIfInBounds_toArray, List.set_cons_zero, List.set_cons_succ]
      refine wpAnyH_take (i := 4) (v := ?_) rfl (by kernel_rfl) (by kernel_rfl) (by kernel_rfl) (fun _ _ _ h => h) (Or.inl ⟨by rfl, ?_⟩) (by assumption) ?_
      rotate_left
      · intro w hSw
        (try dsimp only at hSw)
        go_simp
        all_goals with_reducible rfl
      try simp only [Act.put, List.getElem_toArray, List.getElem_cons_succ, List.getElem_cons_zero, List.setIfInBounds_toArray, List.set_cons_zero, List.set_cons_succ]
      refine wpAnyH_take (i := 5) (v := ?_) rfl (by kernel_rfl) (by kernel_rfl) (by kernel_rfl) (fun _ _ _ h => h) (Or.inl ⟨by rfl, ?_⟩) (by assumption) ?_
      rotate_left
      · intro w hSw
        (try dsimp only at hSw)
        go_simp
        all_goals with_reducible rfl
      try simp only [Act.put, List.getElem_toArray, List.getElem_cons_succ, List.getElem_cons_zero, List.setIfInBounds_toArray, List.set_cons_zero, List.set_cons_succ]
      refine wpAnyH_take (i := 6) (v := ?_) rfl (by kernel_rfl) (by kernel_rfl) (by kernel_rfl) (fun _ _ _ h => h) (Or.inl ⟨by rfl, ?_⟩) (by assumption) ?_
      rotate_left
      · intro w hSw
        (try dsimp only at hSw)
        go_simp
        all_goals with_reducible rfl
      try simp only [Act.put, List.getElem_toArray, List.getElem_cons_succ, List.getElem_cons_zero, List.setIfInBounds_toArray, List.set_cons_zero, List.set_cons_succ]
      refine wpAnyH_take (i := 7) (v := ?_) rfl (by kernel_rfl) (by kernel_rfl) (by kernel_rfl) (fun _ _ _ h => h) (Or.inl ⟨by rfl, ?_⟩) (by assumption) ?_
      rotate_left
      · intro w hSw
        (try dsimp only at hSw)
        go_simp
        all_goals with_reducible rfl
      try simp only [Act.put, List.getElem_toArray, List.getElem_cons_succ, List.getElem_cons_zero, List.setIfInBounds_toArray, List.set_cons_zero, List.set_cons_succ]
      refine wpAnyH_take (i := 8) (v := ?_) rfl (by kernel_rfl) (by kernel_rfl) (by kernel_rfl) (fun _ _ _ h => h) (Or.inl ⟨by rfl, ?_⟩) (by assumption) ?_
      rotate_left
      · intro w hSw
        (try dsimp only at hSw)
        go_simp
        all_goals with_reducible rfl
      try simp only [Act.put, List.getElem_toArray, List.getElem_cons_succ, List.getElem_cons_zero, List.setIfInBounds_toArray, List.set_cons_zero, List.set_cons_succ]
      refine wpAnyH_take (i := 9) (v := ?_) rfl (by kernel_rfl) (by kernel_rfl) (by kernel_rfl) (fun _ _ _ h => h) (Or.inl ⟨by rfl, ?_⟩) (by assumption) ?_
      rotate_left
      · intro w hSw
        (try dsimp only at hSw)
        go_simp
        all_goals with_reducible rfl
      try simp only [Act.put, List.getElem_toArray, List.getElem_cons_succ, List.getElem_cons_zero, List.setIfInBounds_toArray, List.set_cons_zero, List.set_cons_succ]
      refine wpAnyH_take (i := 10) (v := ?_) rfl (by kernel_rfl) (by kernel_rfl) (by kernel_rfl) (fun _ _ _ h => h) (Or.inl ⟨by rfl, ?_⟩) (by assumption) ?_
      rotate_left
      · intro w hSw
        (try dsimp only at hSw)
        go_simp
        all_goals with_reducible rfl
      try simp only [Act.put, List.getElem_toArray, List.getElem_cons_succ, List.getElem_cons_zero, List.setIfInBounds_toArray, List.set_cons_zero, List.set_cons_succ]
      refine wpAnyH_take (i := 11) (v := ?_) rfl (by kernel_rfl) (by kernel_rfl) (by kernel_rfl) (fun _ _ _ h => h) (Or.inl ⟨by rfl, ?_⟩) (by assumption) ?_
      rotate_left
      · intro w hSw
        (try dsimp only at hSw)
        go_simp
        all_goals with_reducible rfl
      try simp only [Act.put, List.getElem_toArray, List.getElem_cons_succ, List.getElem_cons_zero, List.setIfInBounds_toArray, List.set_cons_zero, List.set_cons_succ]
      refine wpAnyH_take (i := 12) (v := ?_) rfl (by kernel_rfl) (by kernel_rfl) (by kernel_rfl) (fun _ _ _ h => h) (Or.inl ⟨by rfl, ?_⟩) (by assumption) ?_
      rotate_left
      · intro w hSw
        (try dsimp only at hSw)
        go_simp
        all_goals with_reducible rfl
      try simp only [Act.put, List.getElem_toArray, List.getElem_cons_succ, List.getElem_cons_zero, List.setIfInBounds_toArray, List.set_cons_zero, List.set_cons_succ]
      refine wpAnyH_take (i := 15) (v := ?_) rfl (by kernel_rfl) (by kernel_rfl) (by kernel_rfl) (fun _ _ _ h => h) (Or.inl ⟨by rfl, ?_⟩) (by assumption) ?_
      rotate_left
      · intro w hSw
        (try dsimp only at hSw)
        go_simp
        all_goals with_reducible rfl
      try simp only [Act.put, List.getElem_toArray, List.getElem_cons_succ, List.getElem_cons_zero, List.setIfInBounds_toArray, List.set_cons_zero, List.set_cons_succ]
      refine wpAnyH_take (i := 16) (v := ?_) rfl (by kernel_rfl) (by kernel_rfl) (by kernel_rfl) (fun _ _ _ h => h) (Or.inl ⟨by rfl, ?_⟩) (by assumption) ?_
      rotate_left
      · intro w hSw
        (try dsimp only at hSw)
        go_simp
        all_goals with_reducible rfl
      try simp only [Act.put, List.getElem_toArray, List.getElem_cons_succ, List.getElem_cons_zero, List.setIfInBounds_toArray, List.set_cons_zero, List.set_cons_succ]
      refine wpAnyH_take (i := 17) (v := ?_) rfl (by kernel_rfl) (by kernel_rfl) (by kernel_rfl) (fun _ _ _ h => h) (Or.inl ⟨by rfl, ?_⟩) (by assumption) ?_
      rotate_left
      · intro w hSw
        (try dsimp only at hSw)
        go_simp
        all_goals with_reducible rfl
      try simp only [Act.put, List.getElem_toArray, List.getElem_cons_succ, List.getElem_cons_zero, List.setIfInBounds_toArray, List.set_cons_zero, List.set_cons_succ]
      refine wpAnyH_take (i := 18) (v := ?_) rfl (by kernel_rfl) (by kernel_rfl) (by kernel_rfl) (fun _ _ _ h => h) (Or.inl ⟨by rfl, ?_⟩) (by assumption) ?_
      rotate_left
      · intro w hSw
        (try dsimp only at hSw)
        go_simp
        all_goals with_reducible rfl
      try simp only [Act.put, List.getElem_toArray, List.getElem_cons_succ, List.getElem_cons_zero, List.setIfInBounds_toArray, List.set_cons_zero, List.set_cons_succ]
      refine wpAnyH_ready (rs := [13]) (by kernel_rfl) (by simp) ?_
      refine AllReadyH.cons rfl (fun K hK => ?_) AllReadyH.nil
      rw [if_pos (by rfl)]
      go_simp
      go_at_call 16
      refine (PY.out wa Sa.out).mono ?_
      rintro e wb ⟨v, rfl, ho, hbb⟩
      obtain ⟨av, cv, hv, hsv⟩ := ho.sl hbt
      rw [hlt] at hv hsv
      subst hv
      have Bb := Lib.hid (Ba.out.trans (hbb.mono Ba.out.size))
      have cvb := run_str (P := Try.prog) hsv 22 5 9 Try.underlying22 Try.underlying5 Try.underlying9
      have cbb := run_str (P := Try.prog) ((Ca.out.below hbb (Nat.le_refl _)).take hn1) 22 5 9 Try.underlying22 Try.underlying5 Try.underlying9
      have e0 := (hbb.cell (p := ⟨w8.heap.size, 0, none⟩) (Nat.lt_of_lt_of_le hlt9 hba.size)).trans d0
      have e1 := (hbb.cell (p := ⟨w8.heap.size, 1, none⟩) (Nat.lt_of_lt_of_le hlt9 hba.size)).trans d1
      have e2 := (hbb.cell (p := ⟨w8.heap.size, 2, none⟩) (Nat.lt_of_lt_of_le hlt9 hba.size)).trans d2
      clear ho hsv
      refine hK.out _ _ ?_ (fun hHeld => ?_)
      · exact ⟨e0, e1, e2, cbb⟩
      clear hK K
      try simp only [Act.put, List.getElem_toArray, List.getElem_cons_succ, List.getElem_cons_zero, List.setIfInBounds_toArray, List.set_cons_zero, List.set_cons_succ]
      refine wpAnyH_ready (rs := [14]) (by kernel_rfl) (by simp) ?_
      refine AllReadyH.cons rfl (fun K hK => ?_) AllReadyH.nil
      go_simp
      refine hK.out _ _ ?_ (fun hHeld => ?_)
      · exact ⟨e0, e1, e2, cbb⟩
      clear hK K
      try simp only [Act.put, List.getElem_toArray, List.getElem_cons_succ, List.getElem_cons_zero, List.setIfInBounds_toArray, List.set_cons_zero, List.set_cons_succ]
      refine wpAnyH_take (i := 19) (v := ?_) rfl (by kernel_rfl) (by kernel_rfl) (by kernel_rfl) (fun _ _ _ h => h) (Or.inl ⟨by rfl, ?_⟩) (by assumption) ?_
      rotate_left
      · intro w hSw
        (try dsimp only at hSw)
        go_simp
        all_goals with_reducible rfl
      try simp only [Act.put, List.getElem_toArray, List.getElem_cons_succ, List.getElem_cons_zero, List.setIfInBounds_toArray, List.set_cons_zero, List.set_cons_succ]
      refine wpAnyH_take (i := 20) (v := ?_) rfl (by kernel_rfl) (by kernel_rfl) (by kernel_rfl) (fun _ _ _ h => h) (Or.inl ⟨by rfl, ?_⟩) (by assumption) ?_
      rotate_left
      · intro w hSw
        (try dsimp only at hSw)
        go_simp
        all_goals with_reducible rfl
      try simp only [Act.put, List.getElem_toArray, List.getElem_cons_succ, List.getElem_cons_zero, List.setIfInBounds_toArray, List.set_cons_zero, List.set_cons_succ]
      refine wpAnyH_take (i := 21) (v := ?_) rfl (by kernel_rfl) (by kernel_rfl) (by kernel_rfl) (fun _ _ _ h => h) (Or.inl ⟨by rfl, ?_⟩) (by assumption) ?_
      rotate_left
      · intro w hSw
        (try dsimp only at hSw)
        go_simp
        all_goals with_reducible rfl
      try simp only [Act.put, List.getElem_toArray, List.getElem_cons_succ, List.getElem_cons_zero, List.setIfInBounds_toArray, List.set_cons_zero, List.set_cons_succ]
      refine wpAnyH_done (by kernel_rfl) ?_ _
      all_goals
        go_wp2
        go_ret
        exact ⟨by simp, K7.out.below.trans (Bb.out.mono K7.out.below.size)⟩
    · have hg := get_err bs hok
      rw [hg] at hsy ⊢
      generalize (get bs).2.2 = er at hok ⊢
      have r0 : ((er : Int) != 0) = true := by simp; omega
      have HK := Lib.hid (KB8.out.alloc KB8.out.size (.cells #[.int .i64 0, .int .i64 0, .slice ya 0 yc] 24))
      clear hsy hg hb8
      go_wp2
      go_ret
      exact ⟨rfl, HK.out⟩

theorem frameBack_walk (f : Fr) (a : Option Addr) (ca : Nat) (m : Option Addr) (lm cm : Nat) (ms : List Nat) (b : Option Addr) (lb cb : Nat) (bs : List Nat) (w : World) (hs : Sl w w.heap.size a f.body.length ca f.body) (hm : Sl w w.heap.size m lm cm ms) (hb : Sl w w.heap.size b lb cb bs) :
    Calls Try.prog 4 #[.agg #[.int .i64 f.ty, .int .i64 f.seq, .slice a f.body.length ca], .slice m lm cm, .slice b lb cb] w fun e w' => e = .returned (.bool true) ∧ Below w.heap.size w w' := by
  by_cases h1 : f.body.length ≤ 9000 ∧ lm ≤ 9000 ∧ lb ≤ 9000
  · exact frameBack_in f a ca m lm cm ms b lb cb bs w hs hm hb h1.1 h1.2.1 h1.2.2
  · have hg : (decide ((9000 : Int) < ((f.body.length : Nat) : Int)) || (decide ((9000 : Int) < (lm : Int)) || decide ((9000 : Int) < (lb : Int)))) = true := by
      rw [Bool.or_eq_true, Bool.or_eq_true, decide_eq_true_eq, decide_eq_true_eq, decide_eq_true_eq]; omega
    by_cases i1 : f.body.length ≤ 9000
    · have j1 : ((f.body.length : Nat) : Int) ≤ 9000 := by omega
      by_cases i2 : lm ≤ 9000
      · have j2 : (lm : Int) ≤ 9000 := by omega
        have j3 : (9000 : Int) < (lb : Int) := by omega
        clear hg h1
        go_enter Try.func4, Try.ntmps4
        go_wp2_with fail
        refine (head_any _).mono ?_
        rintro e w1 ⟨rfl, hb1⟩
        have K1 := Lib.hid ((One.start w f a ca).on hb1)
        obtain ⟨x0, x1, x2⟩ := K1.out.cells
        go_wp2
        go_ret
        exact ⟨rfl, K1.out.below⟩
      · have j2 : (9000 : Int) < (lm : Int) := by omega
        clear hg h1
        go_enter Try.func4, Try.ntmps4
        go_wp2_with fail
        refine (head_any _).mono ?_
        rintro e w1 ⟨rfl, hb1⟩
        have K1 := Lib.hid ((One.start w f a ca).on hb1)
        obtain ⟨x0, x1, x2⟩ := K1.out.cells
        go_wp2
        go_ret
        exact ⟨rfl, K1.out.below⟩
    · have j1 : (9000 : Int) < ((f.body.length : Nat) : Int) := by omega
      clear hg h1
      go_enter Try.func4, Try.ntmps4
      go_wp2_with fail
      refine (head_any _).mono ?_
      rintro e w1 ⟨rfl, hb1⟩
      have K1 := Lib.hid ((One.start w f a ca).on hb1)
      obtain ⟨x0, x1, x2⟩ := K1.out.cells
      go_wp2
      go_ret
      exact ⟨rfl, K1.out.below⟩
end Go.Proofs.Ytdabeelplblgdaa

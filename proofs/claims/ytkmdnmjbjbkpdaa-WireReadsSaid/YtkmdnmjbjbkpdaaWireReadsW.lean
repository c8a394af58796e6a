/- WireReads: the walk. -/
import Derived.Test.YtkmdnmjbjbkpdaaWrP
import Derived.Test.YtkmdnmjbjbkpdaaWrK
import Derived.Test.YtkmdnmjbjbkpdaaAsk
import Derived.Test.YtkmdnmjbjbkpdaaHeld
namespace Go.Proofs.Ytkmdnmjbjbkpdaa
open Go.RowKit
open Wir

/-- The two readers, side by side. -/
structure RX (w0 w : World) (g1 g2 : Nat) (O1 O2 : Nat → Prop) (s1 s2 : RS) : Prop where
  r1 : Rdr 56 w g1 s1 O1
  r2 : Rdr 58 w g2 s2 O2
  ge1 : ∀ k, O1 k → w0.heap.size ≤ k
  ge2 : ∀ k, O2 k → w0.heap.size ≤ k
  no : ∀ k, O1 k → ¬ O2 k
  below : Below w0.heap.size w0 w
section
variable {w0 w w' : World} {g1 g2 : Nat} {O1 O2 : Nat → Prop} {s1 s2 s' : RS}
theorem RX.on (h : RX w0 w g1 g2 O1 O2 s1 s2) (hb : Below w.heap.size w w') : RX w0 w' g1 g2 O1 O2 s1 s2 := ⟨h.r1.below hb, h.r2.below hb, h.ge1, h.ge2, h.no, h.below.trans (hb.mono h.below.size)⟩
theorem RX.one (h : RX w0 w g1 g2 O1 O2 s1 s2) (hr : Rdr 56 w' g1 s' O1) (hb : But O1 w w') : RX w0 w' g1 g2 O1 O2 s' s2 :=
  ⟨hr, h.r2.but hb (fun k h2 h1 => h.no k h1 h2), h.ge1, h.ge2, h.no, But.under h.below hb h.ge1⟩
theorem RX.two (h : RX w0 w g1 g2 O1 O2 s1 s2) (hr : Rdr 58 w' g2 s' O2) (hb : But O2 w w') : RX w0 w' g1 g2 O1 O2 s1 s' :=
  ⟨h.r1.but hb (fun k h1 h2 => h.no k h1 h2), hr, h.ge1, h.ge2, h.no, But.under h.below hb h.ge2⟩
end
set_option linter.unusedSimpArgs false in
set_option maxRecDepth 100000 in
set_option maxHeartbeats 6400000 in
theorem wireReads_walk (a : Option Addr) (len cap : Nat) (bs : List Nat) (la : Option Addr) (ln lc : Nat) (l : List (Int × Int × Int)) (w : World) (hs : Sl w w.heap.size a len cap bs) (hr : Row w w.heap.size la ln lc 3 (askC l)) :
    Calls Try.prog 3 #[.slice a len cap, .slice la ln lc] w fun e w' => e = .returned (.bool true) ∧ Below w.heap.size w w' := by
  have HS := Lib.hid hs
  have HR := Lib.hid hr
  clear hs hr
  go_enter Try.func3, Try.ntmps3
  go_wp2_with fail
  refine (head_any _).mono ?_
  rintro e w1 ⟨rfl, hb1⟩
  have B1 := Lib.hid hb1
  clear hb1
  by_cases h3 : 9000 < len
  · have h3' : (9000 : Int) < (len : Int) := by omega
    go_wp2
    go_ret
    exact ⟨rfl, B1.out⟩
  have h3' : (len : Int) ≤ 9000 := by omega
  by_cases h4 : 300 < ln
  · have h4' : (300 : Int) < (ln : Int) := by omega
    go_wp2
    go_ret
    exact ⟨rfl, B1.out⟩
  have h4' : (ln : Int) ≤ 300 := by omega
  have S1 := Lib.hid ((HS.out.below B1.out (Nat.le_refl _)).more B1.out.size)
  have N1 := Lib.hid (newReader_any a len cap bs w1 S1.out (by omega))
  go_wp2_with fail
  refine N1.out.mono ?_
  rintro e w2 ⟨g1, O1, rfl, r2, b2, n2⟩
  have K2 := Lib.hid (And.intro r2 (And.intro b2 n2))
  have N2 := Lib.hid (rnewReader_any a len cap bs w2 ((S1.out.below b2 (Nat.le_refl _)).more b2.size) (by omega))
  clear r2 b2 n2 N1
  go_wp2_with fail
  refine N2.out.mono ?_
  rintro e w3 ⟨g2, O2, rfl, r3, b3, n3⟩
  have K3 := Lib.hid (show RX w w3 g1 g2 O1 O2 ⟨bs, 0, 0⟩ ⟨bs, 0, 0⟩ from ⟨K2.out.1.below b3, r3, fun k hk => Nat.le_trans B1.out.size (K2.out.2.2 k hk), fun k hk => Nat.le_trans (Nat.le_trans B1.out.size K2.out.2.1.size) (n3 k hk),
    fun k h1 h2 => by have := K2.out.1.lt k h1; have := n3 k h2; omega, (B1.out.trans (K2.out.2.1.mono B1.out.size)).trans (b3.mono (Nat.le_trans B1.out.size K2.out.2.1.size))⟩)
  clear r3 b3 n3 N2 K2
  go_wp2_with fail
  go_loopw [8] (fun i wr => ∃ (k : Nat) (s : RS), k ≤ ln ∧ i = .int .i64 (k : Int) ∧ RX w wr g1 g2 O1 O2 s s) (fun i _ => ln - (intOf i).toNat)
  case atStart => exact ⟨0, _, Nat.zero_le _, rfl, K3.out⟩
  case round =>
    obtain ⟨k, s, hk, rfl, hrx⟩ := hrel
    have K := Lib.hid hrx
    clear hrx K3
    by_cases hlt : k < ln
    · have HRx := Lib.hid (fun (x : World) (hx : Below w.heap.size w x) => HR.out.below hx (Nat.le_refl _))
      obtain ⟨b, o, rfl, hbl, c0, c1, c2⟩ := ask_at (HRx.out wr K.out.below) hlt
      have HC : Hid (∀ x, Below w.heap.size w x → x.cell? ⟨b, o + k * 3 + 1, none⟩ = some (.int .i64 (l.getD k (0, 0, 0)).2.1) ∧ x.cell? ⟨b, o + k * 3 + 2, none⟩ = some (.int .i64 (l.getD k (0, 0, 0)).2.2)) := fun x hx => by
        obtain ⟨b', o', e', _, _, d1, d2⟩ := ask_at (HRx.out x hx) hlt
        injection e' with e'
        injection e' with e1 e2
        subst e1 e2
        exact ⟨d1, d2⟩
      generalize l.getD k (0, 0, 0) = q at c0 c1 c2 HC
      obtain ⟨kd, lo, hi⟩ := q
      simp only at c0 c1 c2 HC
      clear HRx
      by_cases k1 : kd = 1
      · subst k1
        have T1 := Lib.hid (K.out.on (Below.drew (Below.refl _ _)))
        have C1 := Lib.hid (int_any T1.out.r1 lo hi)
        clear K c1 c2
        obtain ⟨c1, c2⟩ := HC.out _ T1.out.below
        go_wp2_with fail
        refine wp_region_held_drew (S := fun x => x.cell? ⟨b, o + k * 3 + 1, none⟩ = some (.int .i64 lo) ∧ x.cell? ⟨b, o + k * 3 + 2, none⟩ = some (.int .i64 hi)) (by kernel_rfl) ⟨c1, c2⟩ (fun hHeld => ?_)
        refine wpAnyH_take (i := 0) (v := ?_) rfl (by kernel_rfl) (by kernel_rfl) (by kernel_rfl) (fun _ _ _ h => h) (Or.inl ⟨by rfl, ?_⟩) (by assumption) ?_
        rotate_left
        · intro w hSw
          (try dsimp only at hSw)
          go_simp
          all_goals with_reducible rfl
        try simp only [Act.put, List.getElem_toArray, List.getElem_cons_succ, List.getElem_cons_zero, List.setIfInBounds_toArray, List.set_cons_zero, List.set_cons_succ]
        refine wpAnyH_take (i := 1) (v := ?_) rfl (by kernel_rfl) (by kernel_rfl) (by kernel_rfl) (fun _ _ _ h => h) (Or.inl ⟨by rfl, ?_⟩) (by assumption) ?_
        rotate_left
        · intro w hSw
          (try dsimp only at hSw)
          go_simp
          all_goals with_reducible rfl
        try simp only [Act.put, List.getElem_toArray, List.getElem_cons_succ, List.getElem_cons_zero, List.setIfInBounds_toArray, List.set_cons_zero, List.set_cons_succ]
        refine wpAnyH_take (i := 2) (v := ?_) rfl (by kernel_rfl) (by kernel_rfl) (by kernel_rfl) (fun _ _ _ h => h) (Or.inl ⟨by rfl, ?_⟩) (by assumption) ?_
        rotate_left
        · intro w hSw
          (try dsimp only at hSw)
          go_simp
          all_goals with_reducible rfl
        try simp only [Act.put, List.getElem_toArray, List.getElem_cons_succ, List.getElem_cons_zero, List.setIfInBounds_toArray, List.set_cons_zero, List.set_cons_succ]
        refine wpAnyH_take (i := 3) (v := ?_) rfl (by kernel_rfl) (by kernel_rfl) (by kernel_rfl) (fun _ _ _ h => h) (Or.inl ⟨by rfl, ?_⟩) (by assumption) ?_
        rotate_left
        · intro w hSw
          (try dsimp only at hSw)
          go_simp
          all_goals with_reducible rfl
        try simp only [Act.put, List.getElem_toArray, List.getElem_cons_succ, List.getElem_cons_zero, List.setIfInBounds_toArray, List.set_cons_zero, List.set_cons_succ]
        refine wpAnyH_take (i := 4) (v := ?_) rfl (by kernel_rfl) (by kernel_rfl) (by kernel_rfl) (fun _ _ _ h => h) (Or.inl ⟨by rfl, ?_⟩) (by assumption) ?_
        rotate_left
        · intro w hSw
          (try dsimp only at hSw)
          go_simp
          all_goals with_reducible rfl
        try simp only [Act.put, List.getElem_toArray, List.getElem_cons_succ, List.getElem_cons_zero, List.setIfInBounds_toArray, List.set_cons_zero, List.set_cons_succ]
        refine wpAnyH_take (i := 5) (v := ?_) rfl (by kernel_rfl) (by kernel_rfl) (by kernel_rfl) (fun _ _ _ h => h) (Or.inl ⟨by rfl, ?_⟩) (by assumption) ?_
        rotate_left
        · intro w hSw
          (try dsimp only at hSw)
          go_simp
          all_goals with_reducible rfl
        try simp only [Act.put, List.getElem_toArray, List.getElem_cons_succ, List.getElem_cons_zero, List.setIfInBounds_toArray, List.set_cons_zero, List.set_cons_succ]
        refine wpAnyH_take (i := 6) (v := ?_) rfl (by kernel_rfl) (by kernel_rfl) (by kernel_rfl) (fun _ _ _ h => h) (Or.inl ⟨by rfl, ?_⟩) (by assumption) ?_
        rotate_left
        · intro w hSw
          (try dsimp only at hSw)
          go_simp
          all_goals with_reducible rfl
        try simp only [Act.put, List.getElem_toArray, List.getElem_cons_succ, List.getElem_cons_zero, List.setIfInBounds_toArray, List.set_cons_zero, List.set_cons_succ]
        refine wpAnyH_take (i := 7) (v := ?_) rfl (by kernel_rfl) (by kernel_rfl) (by kernel_rfl) (fun _ _ _ h => h) (Or.inl ⟨by rfl, ?_⟩) (by assumption) ?_
        rotate_left
        · intro w hSw
          (try dsimp only at hSw)
          go_simp
          all_goals with_reducible rfl
        try simp only [Act.put, List.getElem_toArray, List.getElem_cons_succ, List.getElem_cons_zero, List.setIfInBounds_toArray, List.set_cons_zero, List.set_cons_succ]
        refine wpAnyH_take (i := 8) (v := ?_) rfl (by kernel_rfl) (by kernel_rfl) (by kernel_rfl) (fun _ _ _ h => h) (Or.inl ⟨by rfl, ?_⟩) (by assumption) ?_
        rotate_left
        · intro w hSw
          (try dsimp only at hSw)
          go_simp
          all_goals with_reducible rfl
        try simp only [Act.put, List.getElem_toArray, List.getElem_cons_succ, List.getElem_cons_zero, List.setIfInBounds_toArray, List.set_cons_zero, List.set_cons_succ]
        refine wpAnyH_take (i := 9) (v := ?_) rfl (by kernel_rfl) (by kernel_rfl) (by kernel_rfl) (fun _ _ _ h => h) (Or.inl ⟨by rfl, ?_⟩) (by assumption) ?_
        rotate_left
        · intro w hSw
          (try dsimp only at hSw)
          go_simp
          all_goals with_reducible rfl
        try simp only [Act.put, List.getElem_toArray, List.getElem_cons_succ, List.getElem_cons_zero, List.setIfInBounds_toArray, List.set_cons_zero, List.set_cons_succ]
        refine wpAnyH_take (i := 10) (v := ?_) rfl (by kernel_rfl) (by kernel_rfl) (by kernel_rfl) (fun _ _ _ h => h) (Or.inl ⟨by rfl, ?_⟩) (by assumption) ?_
        rotate_left
        · intro w hSw
          (try dsimp only at hSw)
          go_simp
          all_goals with_reducible rfl
        try simp only [Act.put, List.getElem_toArray, List.getElem_cons_succ, List.getElem_cons_zero, List.setIfInBounds_toArray, List.set_cons_zero, List.set_cons_succ]
        refine wpAnyH_ready (rs := [11]) (by kernel_rfl) (by simp) ?_
        refine AllReadyH.cons rfl (fun K hK => ?_) AllReadyH.nil
        rw [if_pos (by rfl)]
        go_simp
        go_at_call 12
        refine C1.out.mono ?_
        rintro e w4 ⟨rfl, r4, b4⟩
        have K4 := Lib.hid (T1.out.one r4 b4)
        clear r4 b4 C1
        refine hK.out _ _ ?_ (fun hHeld => ?_)
        · exact (HC.out _ K4.out.below)
        clear hK K
        try simp only [Act.put, List.getElem_toArray, List.getElem_cons_succ, List.getElem_cons_zero, List.setIfInBounds_toArray, List.set_cons_zero, List.set_cons_succ]
        refine wpAnyH_take (i := 12) (v := ?_) rfl (by kernel_rfl) (by kernel_rfl) (by kernel_rfl) (fun _ _ _ h => h) (Or.inl ⟨by rfl, ?_⟩) (by assumption) ?_
        rotate_left
        · intro w hSw
          (try dsimp only at hSw)
          go_simp
          all_goals with_reducible rfl
        try simp only [Act.put, List.getElem_toArray, List.getElem_cons_succ, List.getElem_cons_zero, List.setIfInBounds_toArray, List.set_cons_zero, List.set_cons_succ]
        refine wpAnyH_done (by kernel_rfl) ?_ _
        clear hHeld c0 c1 c2 T1
        have T2 := Lib.hid (K4.out.on (Below.drew (Below.refl _ _)))
        have C2 := Lib.hid (rint_any T2.out.r2 lo hi)
        obtain ⟨c1, c2⟩ := HC.out _ T2.out.below
        generalize s.int lo hi = r at *
        clear K4
        go_wp2_with fail
        refine wp_region_held_drew (S := fun x => x.cell? ⟨b, o + k * 3 + 1, none⟩ = some (.int .i64 lo) ∧ x.cell? ⟨b, o + k * 3 + 2, none⟩ = some (.int .i64 hi)) (by kernel_rfl) ⟨c1, c2⟩ (fun hHeld => ?_)
        refine wpAnyH_take (i := 0) (v := ?_) rfl (by kernel_rfl) (by kernel_rfl) (by kernel_rfl) (fun _ _ _ h => h) (Or.inl ⟨by rfl, ?_⟩) (by assumption) ?_
        rotate_left
        · intro w hSw
          (try dsimp only at hSw)
          go_simp
          all_goals with_reducible rfl
        try simp only [Act.put, List.getElem_toArray, List.getElem_cons_succ, List.getElem_cons_zero, List.setIfInBounds_toArray, List.set_cons_zero, List.set_cons_succ]
        refine wpAnyH_take (i := 1) (v := ?_) rfl (by kernel_rfl) (by kernel_rfl) (by kernel_rfl) (fun _ _ _ h => h) (Or.inl ⟨by rfl, ?_⟩) (by assumption) ?_
        rotate_left
        · intro w hSw
          (try dsimp only at hSw)
          go_simp
          all_goals with_reducible rfl
        try simp only [Act.put, List.getElem_toArray, List.getElem_cons_succ, List.getElem_cons_zero, List.setIfInBounds_toArray, List.set_cons_zero, List.set_cons_succ]
        refine wpAnyH_take (i := 2) (v := ?_) rfl (by kernel_rfl) (by kernel_rfl) (by kernel_rfl) (fun _ _ _ h => h) (Or.inl ⟨by rfl, ?_⟩) (by assumption) ?_
        rotate_left
        · intro w hSw
          (try dsimp only at hSw)
          go_simp
          all_goals with_reducible rfl
        try simp only [Act.put, List.getElem_toArray, List.getElem_cons_succ, List.getElem_cons_zero, List.setIfInBounds_toArray, List.set_cons_zero, List.set_cons_succ]
        refine wpAnyH_take (i := 3) (v := ?_) rfl (by kernel_rfl) (by kernel_rfl) (by kernel_rfl) (fun _ _ _ h => h) (Or.inl ⟨by rfl, ?_⟩) (by assumption) ?_
        rotate_left
        · intro w hSw
          (try dsimp only at hSw)
          go_simp
          all_goals with_reducible rfl
        try simp only [Act.put, List.getElem_toArray, List.getElem_cons_succ, List.getElem_cons_zero, List.setIfInBounds_toArray, List.set_cons_zero, List.set_cons_succ]
        refine wpAnyH_take (i := 4) (v := ?_) rfl (by kernel_rfl) (by kernel_rfl) (by kernel_rfl) (fun _ _ _ h => h) (Or.inl ⟨by rfl, ?_⟩) (by assumption) ?_
        rotate_left
        · intro w hSw
          (try dsimp only at hSw)
          go_simp
          all_goals with_reducible rfl
        try simp only [Act.put, List.getElem_toArray, List.getElem_cons_succ, List.getElem_cons_zero, List.setIfInBounds_toArray, List.set_cons_zero, List.set_cons_succ]
        refine wpAnyH_take (i := 5) (v := ?_) rfl (by kernel_rfl) (by kernel_rfl) (by kernel_rfl) (fun _ _ _ h => h) (Or.inl ⟨by rfl, ?_⟩) (by assumption) ?_
        rotate_left
        · intro w hSw
          (try dsimp only at hSw)
          go_simp
          all_goals with_reducible rfl
        try simp only [Act.put, List.getElem_toArray, List.getElem_cons_succ, List.getElem_cons_zero, List.setIfInBounds_toArray, List.set_cons_zero, List.set_cons_succ]
        refine wpAnyH_take (i := 6) (v := ?_) rfl (by kernel_rfl) (by kernel_rfl) (by kernel_rfl) (fun _ _ _ h => h) (Or.inl ⟨by rfl, ?_⟩) (by assumption) ?_
        rotate_left
        · intro w hSw
          (try dsimp only at hSw)
          go_simp
          all_goals with_reducible rfl
        try simp only [Act.put, List.getElem_toArray, List.getElem_cons_succ, List.getElem_cons_zero, List.setIfInBounds_toArray, List.set_cons_zero, List.set_cons_succ]
        refine wpAnyH_take (i := 7) (v := ?_) rfl (by kernel_rfl) (by kernel_rfl) (by kernel_rfl) (fun _ _ _ h => h) (Or.inl ⟨by rfl, ?_⟩) (by assumption) ?_
        rotate_left
        · intro w hSw
          (try dsimp only at hSw)
          go_simp
          all_goals with_reducible rfl
        try simp only [Act.put, List.getElem_toArray, List.getElem_cons_succ, List.getElem_cons_zero, List.setIfInBounds_toArray, List.set_cons_zero, List.set_cons_succ]
        refine wpAnyH_take (i := 8) (v := ?_) rfl (by kernel_rfl) (by kernel_rfl) (by kernel_rfl) (fun _ _ _ h => h) (Or.inl ⟨by rfl, ?_⟩) (by assumption) ?_
        rotate_left
        · intro w hSw
          (try dsimp only at hSw)
          go_simp
          all_goals with_reducible rfl
        try simp only [Act.put, List.getElem_toArray, List.getElem_cons_succ, List.getElem_cons_zero, List.setIfInBounds_toArray, List.set_cons_zero, List.set_cons_succ]
        refine wpAnyH_take (i := 9) (v := ?_) rfl (by kernel_rfl) (by kernel_rfl) (by kernel_rfl) (fun _ _ _ h => h) (Or.inl ⟨by rfl, ?_⟩) (by assumption) ?_
        rotate_left
        · intro w hSw
          (try dsimp only at hSw)
          go_simp
          all_goals with_reducible rfl
        try simp only [Act.put, List.getElem_toArray, List.getElem_cons_succ, List.getElem_cons_zero, List.setIfInBounds_toArray, List.set_cons_zero, List.set_cons_succ]
        refine wpAnyH_take (i := 10) (v := ?_) rfl (by kernel_rfl) (by kernel_rfl) (by kernel_rfl) (fun _ _ _ h => h) (Or.inl ⟨by rfl, ?_⟩) (by assumption) ?_
        rotate_left
        · intro w hSw
          (try dsimp only at hSw)
          go_simp
          all_goals with_reducible rfl
        try simp only [Act.put, List.getElem_toArray, List.getElem_cons_succ, List.getElem_cons_zero, List.setIfInBounds_toArray, List.set_cons_zero, List.set_cons_succ]
        refine wpAnyH_take (i := 11) (v := ?_) rfl (by kernel_rfl) (by kernel_rfl) (by kernel_rfl) (fun _ _ _ h => h) (Or.inl ⟨by rfl, ?_⟩) (by assumption) ?_
        rotate_left
        · intro w hSw
          (try dsimp only at hSw)
          go_simp
          all_goals with_reducible rfl
        try simp only [Act.put, List.getElem_toArray, List.getElem_cons_succ, List.getElem_cons_zero, List.setIfInBounds_toArray, List.set_cons_zero, List.set_cons_succ]
        refine wpAnyH_ready (rs := [12]) (by kernel_rfl) (by simp) ?_
        refine AllReadyH.cons rfl (fun K hK => ?_) AllReadyH.nil
        rw [if_pos (by rfl)]
        go_simp
        go_at_call 13
        refine C2.out.mono ?_
        rintro e w5 ⟨rfl, r5, b5⟩
        have K5 := Lib.hid (T2.out.two r5 b5)
        clear r5 b5 C2
        refine hK.out _ _ ?_ (fun hHeld => ?_)
        · exact (HC.out _ K5.out.below)
        clear hK K
        try simp only [Act.put, List.getElem_toArray, List.getElem_cons_succ, List.getElem_cons_zero, List.setIfInBounds_toArray, List.set_cons_zero, List.set_cons_succ]
        refine wpAnyH_take (i := 13) (v := ?_) rfl (by kernel_rfl) (by kernel_rfl) (by kernel_rfl) (fun _ _ _ h => h) (Or.inl ⟨by rfl, ?_⟩) (by assumption) ?_
        rotate_left
        · intro w hSw
          (try dsimp only at hSw)
          go_simp
          all_goals with_reducible rfl
        try simp only [Act.put, List.getElem_toArray, List.getElem_cons_succ, List.getElem_cons_zero, List.setIfInBounds_toArray, List.set_cons_zero, List.set_cons_succ]
        refine wpAnyH_done (by kernel_rfl) ?_ _
        clear hHeld c1 c2 T2
        have E1 := Lib.hid (end_any K5.out.r1)
        go_wp2_with fail
        refine E1.out.mono ?_
        rintro e w6 ⟨rfl, b6⟩
        have K6 := Lib.hid (K5.out.on b6)
        clear b6 E1 K5
        have E2 := Lib.hid (rend_any K6.out.r2)
        go_wp2_with fail
        refine E2.out.mono ?_
        rintro e w7 ⟨rfl, b7⟩
        have K7 := Lib.hid (K6.out.on b7)
        clear b7 E2 K6
        go_wp2
        go_roundw
        case rel => exact ⟨k + 1, r.2, by omega, by go_num, K7.out⟩
        case measure => simp [intOf]; omega
      · have k1' : ((kd : Int) == 1) = false := by simp; omega
        by_cases k2 : kd = 2
        · subst k2
          have C1 := Lib.hid (text_any K.out.r1 hi)
          clear k1'
          go_wp2_with fail
          refine C1.out.mono ?_
          rintro e w4 ⟨xa, xc, rfl, sx, nx, r4, b4⟩
          have K4 := Lib.hid (K.out.one r4 b4)
          have X4 := Lib.hid (Away.new (O := O2) sx nx (fun k hk => K.out.r2.lt k hk))
          have hxb := Lib.hid sx.byte
          clear r4 b4 C1 sx nx c0 c1 c2 K
          have T2 := Lib.hid (K4.out.on (Below.drew (Below.refl _ _)))
          have X5 := Lib.hid (X4.out.below (Below.drew (Below.refl _ _)))
          have C2 := Lib.hid (rtext_any T2.out.r2 hi)
          obtain ⟨c1, c2⟩ := HC.out _ T2.out.below
          generalize s.text hi = r at *
          obtain ⟨L, hL⟩ : ∃ L, L = r.1.length := ⟨_, rfl⟩
          rw [← hL] at X4 X5
          have HL := Lib.hid hL
          rw [← hL]
          have C2 : Hid (Calls Try.prog 15 #[.pointer (some ⟨g2, 0, none⟩), .int .i64 hi] w4.drew fun e w' => ∃ a c, e = .returned (.slice a L c) ∧ Sl w' w'.heap.size a L c r.1 ∧ Rdr 58 w' g2 r.2 O2 ∧ But O2 w4.drew w') := C2.out.mono fun e w' ⟨a, c, h1, h2, _, h4, h5⟩ => ⟨a, c, by rw [hL]; exact h1, by rw [hL]; exact h2, h4, h5⟩
          clear hL
          have q5 := run_str (P := Try.prog) X5.out.1 22 5 9 Try.underlying22 Try.underlying5 Try.underlying9
          clear K4 X4
          go_wp2_with fail
          refine wp_region_held_drew (S := fun x => x.cell? ⟨b, o + k * 3 + 2, none⟩ = some (.int .i64 hi) ∧ (convert 22 9 (.slice xa L xc)).run Try.prog x = .ok (.string (strOf r.1)) x) (by kernel_rfl) ⟨c2, q5⟩ (fun hHeld => ?_)
          refine wpAnyH_take (i := 0) (v := ?_) rfl (by kernel_rfl) (by kernel_rfl) (by kernel_rfl) (fun _ _ _ h => h) (Or.inl ⟨by rfl, ?_⟩) (by assumption) ?_
          rotate_left
          · intro w hSw
            (try dsimp only at hSw)
            go_simp
            all_goals with_reducible rfl
          try simp only [Act.put, List.getElem_toArray, List.getElem_cons_succ, List.getElem_cons_zero, List.setIfInBounds_toArray, List.set_cons_zero, List.set_cons_succ]
          refine wpAnyH_take (i := 1) (v := ?_) rfl (by kernel_rfl) (by kernel_rfl) (by kernel_rfl) (fun _ _ _ h => h) (Or.inl ⟨by rfl, ?_⟩) (by assumption) ?_
          rotate_left
          · intro w hSw
            (try dsimp only at hSw)
            go_simp
            all_goals with_reducible rfl
          try simp only [Act.put, List.getElem_toArray, List.getElem_cons_succ, List.getElem_cons_zero, List.setIfInBounds_toArray, List.set_cons_zero, List.set_cons_succ]
          refine wpAnyH_take (i := 2) (v := ?_) rfl (by kernel_rfl) (by kernel_rfl) (by kernel_rfl) (fun _ _ _ h => h) (Or.inl ⟨by rfl, ?_⟩) (by assumption) ?_
          rotate_left
          · intro w hSw
            (try dsimp only at hSw)
            go_simp
            all_goals with_reducible rfl
          try simp only [Act.put, List.getElem_toArray, List.getElem_cons_succ, List.getElem_cons_zero, List.setIfInBounds_toArray, List.set_cons_zero, List.set_cons_succ]
          refine wpAnyH_take (i := 3) (v := ?_) rfl (by kernel_rfl) (by kernel_rfl) (by kernel_rfl) (fun _ _ _ h => h) (Or.inl ⟨by rfl, ?_⟩) (by assumption) ?_
          rotate_left
          · intro w hSw
            (try dsimp only at hSw)
            go_simp
            all_goals with_reducible rfl
          try simp only [Act.put, List.getElem_toArray, List.getElem_cons_succ, List.getElem_cons_zero, List.setIfInBounds_toArray, List.set_cons_zero, List.set_cons_succ]
          refine wpAnyH_take (i := 4) (v := ?_) rfl (by kernel_rfl) (by kernel_rfl) (by kernel_rfl) (fun _ _ _ h => h) (Or.inl ⟨by rfl, ?_⟩) (by assumption) ?_
          rotate_left
          · intro w hSw
            (try dsimp only at hSw)
            go_simp
            all_goals with_reducible rfl
          try simp only [Act.put, List.getElem_toArray, List.getElem_cons_succ, List.getElem_cons_zero, List.setIfInBounds_toArray, List.set_cons_zero, List.set_cons_succ]
          refine wpAnyH_take (i := 5) (v := ?_) rfl (by kernel_rfl) (by kernel_rfl) (by kernel_rfl) (fun _ _ _ h => h) (Or.inl ⟨by rfl, ?_⟩) (by assumption) ?_
          rotate_left
          · intro w hSw
            (try dsimp only at hSw)
            go_simp
            all_goals with_reducible rfl
          try simp only [Act.put, List.getElem_toArray, List.getElem_cons_succ, List.getElem_cons_zero, List.setIfInBounds_toArray, List.set_cons_zero, List.set_cons_succ]
          refine wpAnyH_take (i := 6) (v := ?_) rfl (by kernel_rfl) (by kernel_rfl) (by kernel_rfl) (fun _ _ _ h => h) (Or.inl ⟨by rfl, ?_⟩) (by assumption) ?_
          rotate_left
          · intro w hSw
            (try dsimp only at hSw)
            go_simp
            all_goals with_reducible rfl
          try simp only [Act.put, List.getElem_toArray, List.getElem_cons_succ, List.getElem_cons_zero, List.setIfInBounds_toArray, List.set_cons_zero, List.set_cons_succ]
          refine wpAnyH_take (i := 7) (v := ?_) rfl (by kernel_rfl) (by kernel_rfl) (by kernel_rfl) (fun _ _ _ h => h) (Or.inl ⟨by rfl, ?_⟩) (by assumption) ?_
          rotate_left
          · intro w hSw
            (try dsimp only at hSw)
            go_simp
            all_goals with_reducible rfl
          try simp only [Act.put, List.getElem_toArray, List.getElem_cons_succ, List.getElem_cons_zero, List.setIfInBounds_toArray, List.set_cons_zero, List.set_cons_succ]
          refine wpAnyH_ready (rs := [8]) (by kernel_rfl) (by simp) ?_
          refine AllReadyH.cons rfl (fun K hK => ?_) AllReadyH.nil
          rw [if_pos (by rfl)]
          go_simp
          go_at_call 15
          refine C2.out.mono ?_
          rintro e w5 ⟨ya, yc, rfl, sy, r5, b5⟩
          have K5 := Lib.hid (T2.out.two r5 b5)
          have q6 := run_str (P := Try.prog) (X5.out.but b5).1 22 5 9 Try.underlying22 Try.underlying5 Try.underlying9
          have q7 := run_str (P := Try.prog) sy 22 5 9 Try.underlying22 Try.underlying5 Try.underlying9
          obtain ⟨_, d2⟩ := HC.out _ K5.out.below
          clear r5 b5 C2 sy
          refine hK.out _ _ ?_ (fun hHeld => ?_)
          · exact ⟨d2, q6⟩
          clear hK K
          try simp only [Act.put, List.getElem_toArray, List.getElem_cons_succ, List.getElem_cons_zero, List.setIfInBounds_toArray, List.set_cons_zero, List.set_cons_succ]
          refine wpAnyH_ready (rs := [9]) (by kernel_rfl) (by simp) ?_
          refine AllReadyH.cons rfl (fun K hK => ?_) AllReadyH.nil
          rw [if_pos (by rfl)]
          go_simp
          refine hK.out _ _ ?_ (fun hHeld => ?_)
          · exact ⟨d2, q6⟩
          clear hK K
          try simp only [Act.put, List.getElem_toArray, List.getElem_cons_succ, List.getElem_cons_zero, List.setIfInBounds_toArray, List.set_cons_zero, List.set_cons_succ]
          refine wpAnyH_take (i := 10) (v := ?_) rfl (by kernel_rfl) (by kernel_rfl) (by kernel_rfl) (fun _ _ _ h => h) (Or.inl ⟨by rfl, ?_⟩) (by assumption) ?_
          rotate_left
          · intro w hSw
            (try dsimp only at hSw)
            go_simp
            all_goals with_reducible rfl
          try simp only [Act.put, List.getElem_toArray, List.getElem_cons_succ, List.getElem_cons_zero, List.setIfInBounds_toArray, List.set_cons_zero, List.set_cons_succ]
          refine wpAnyH_done (by kernel_rfl) ?_ _
          clear hHeld c1 c2 d2 T2 q5 q6 q7
          have E1 := Lib.hid (end_any K5.out.r1)
          go_wp2_with fail
          refine E1.out.mono ?_
          rintro e w6 ⟨rfl, b6⟩
          have K6 := Lib.hid (K5.out.on b6)
          clear b6 E1 K5
          have E2 := Lib.hid (rend_any K6.out.r2)
          go_wp2_with fail
          refine E2.out.mono ?_
          rintro e w7 ⟨rfl, b7⟩
          have K7 := Lib.hid (K6.out.on b7)
          clear b7 E2 K6
          go_wp2
          go_roundw
          case rel => exact ⟨k + 1, r.2, by omega, by go_num, K7.out⟩
          case measure => simp [intOf]; omega
        · have k2' : ((kd : Int) == 2) = false := by simp; omega
          have C1 := Lib.hid (num_any K.out.r1)
          clear c1 c2
          go_wp2_with fail
          refine C1.out.mono ?_
          rintro e w4 ⟨rfl, r4, b4⟩
          have K4 := Lib.hid (K.out.one r4 b4)
          clear r4 b4 C1 K c0
          have C2 := Lib.hid (rnum_any K4.out.r2)
          generalize s.num = r at *
          go_wp2_with fail
          refine C2.out.mono ?_
          rintro e w5 ⟨rfl, r5, b5⟩
          have K5 := Lib.hid (K4.out.two r5 b5)
          clear r5 b5 C2 K4
          have E1 := Lib.hid (end_any K5.out.r1)
          go_wp2_with fail
          refine E1.out.mono ?_
          rintro e w6 ⟨rfl, b6⟩
          have K6 := Lib.hid (K5.out.on b6)
          clear b6 E1 K5
          have E2 := Lib.hid (rend_any K6.out.r2)
          go_wp2_with fail
          refine E2.out.mono ?_
          rintro e w7 ⟨rfl, b7⟩
          have K7 := Lib.hid (K6.out.on b7)
          clear b7 E2 K6
          go_wp2
          go_roundw
          case rel => exact ⟨k + 1, r.2, by omega, by go_num, K7.out⟩
          case measure => simp [intOf]; omega
    · have hkl : ¬ (k : Int) < (ln : Int) := by omega
      have E1 := Lib.hid (end_any K.out.r1)
      go_wp2_with fail
      refine E1.out.mono ?_
      rintro e w6 ⟨rfl, b6⟩
      have K6 := Lib.hid (K.out.on b6)
      clear b6 E1 K
      have E2 := Lib.hid (rend_any K6.out.r2)
      go_wp2_with fail
      refine E2.out.mono ?_
      rintro e w7 ⟨rfl, b7⟩
      have K7 := Lib.hid (K6.out.on b7)
      clear b7 E2 K6
      go_wp2
      go_ret
      exact ⟨rfl, K7.out.below⟩
end Go.Proofs.Ytkmdnmjbjbkpdaa

/- WireForm: the walk. -/
import Derived.Test.YtkmdnmjbjbkpdaaWrL
namespace Go.Proofs.Ytkmdnmjbjbkpdaa
open Go.RowKit
open Wir

/-- What holds at each round: where nothing was wrong, what was read is what was written. -/
structure Same (bs : List Nat) (k : Nat) (s : RS) (ds : List Nat) : Prop where
  eq : s.bs = bs
  ok : s.Ok
  e : s.e = 0 ∨ s.e = 12 ∨ s.e = 13
  same : s.e = 0 → ds = bs.take s.n
  len : ds.length ≤ 10 * k
theorem num_told (s : RS) : s.num = if s.e ≠ 0 then (0, s) else if (num (s.bs.drop s.n)).2.2 ≠ 0 then (0, { s with e := (num (s.bs.drop s.n)).2.2 }) else ((num (s.bs.drop s.n)).1, { s with n := s.n + (num (s.bs.drop s.n)).2.1 }) := rfl
theorem num_range {s : RS} (h : s.Ok) : -9223372036854775808 ≤ s.num.1 ∧ s.num.1 ≤ 9223372036854775807 := by
  have := num_le h.drop
  rw [num_told]
  split
  · simp
  split
  · simp
  · exact this.2.2
/-- A number is read, and, unless bytes end, written. -/
theorem Same.next {bs : List Nat} {k : Nat} {s : RS} {ds : List Nat} (h : Same bs k s ds) : Same bs (k + 1) s.num.2 (if s.num.2.e = 13 then ds else ds ++ dg (cnt s.num.1)) ∧ (s.num.2.end_ = 0 ∨ s.num.2.end_ = 12 ↔ s.num.2.e ≠ 13) := by
  have hok := h.ok.num
  have hle := dg_le (cnt_lt (num_range h.ok).1 (num_range h.ok).2)
  have hends : ∀ t : RS, (t.e = 0 ∨ t.e = 12 ∨ t.e = 13) → (t.end_ = 0 ∨ t.end_ = 12 ↔ t.e ≠ 13) := by
    intro t ht
    unfold RS.end_
    split <;> omega
  have hlen : ∀ b : Prop, [Decidable b] → (if b then ds else ds ++ dg (cnt s.num.1)).length ≤ 10 * (k + 1) := by
    intro b _
    have := h.len
    split
    · omega
    · rw [List.length_append]; omega
  have he : s.num.2.e = 0 ∨ s.num.2.e = 12 ∨ s.num.2.e = 13 := by
    rw [num_told]
    split
    · exact h.e
    split
    · rename_i h1 h2
      rcases (num_bad h2).2 with h3 | h3
      · exact .inr (.inl h3)
      · exact .inr (.inr h3)
    · exact h.e
  refine ⟨⟨hok.2.trans h.eq, hok.1, he, fun h0 => ?_, hlen _⟩, hends _ he⟩
  rw [if_neg (by omega)]
  have e := num_told s
  rcases Nat.eq_zero_or_pos s.e with hs | hs
  · rw [if_neg (by omega)] at e
    by_cases hz : (num (s.bs.drop s.n)).2.2 = 0
    · rw [if_neg (by omega)] at e
      obtain ⟨c, hc, h1, h2, h3⟩ := num_form h.ok.drop hz
      rw [h1] at e
      rw [e]
      simp only
      rw [cnt_unc, h.same hs, List.take_add, ← h.eq, h2]
    · rw [if_pos hz] at e
      rw [e] at h0
      exact absurd h0 hz
  · rw [if_pos (by omega)] at e
    rw [e] at h0
    simp only at h0
    omega
set_option linter.unusedSimpArgs false in
set_option maxRecDepth 100000 in
set_option maxHeartbeats 3200000 in
theorem wireForm_walk (a : Option Addr) (len cap : Nat) (bs : List Nat) (w : World) (hs : Sl w w.heap.size a len cap bs) :
    Calls Try.prog 6 #[.slice a len cap] w fun e w' => e = .returned (.bool true) ∧ Below w.heap.size w w' := by
  have HS := Lib.hid hs
  have hl := hs.length
  clear hs
  go_enter Try.func6, Try.ntmps6
  go_wp2_with fail
  refine (head_any _).mono ?_
  rintro e w1 ⟨rfl, hb1⟩
  have B1 := Lib.hid hb1
  clear hb1
  by_cases h3 : 900 < len
  · have h3' : (900 : Int) < (len : Int) := by omega
    go_wp2
    go_ret
    exact ⟨rfl, B1.out⟩
  have h3' : (len : Int) ≤ 900 := by omega
  have NR := Lib.hid (newReader_any a len cap bs w1 ((HS.out.below B1.out (Nat.le_refl _)).more B1.out.size) (by omega))
  go_wp2_with fail
  refine NR.out.mono ?_
  rintro e w2 ⟨g, O, rfl, r2, b2, n2⟩
  have K2 := Lib.hid (show RW w (w2.alloc (.cells #[.slice none 0 0] 41)) g w2.heap.size O ⟨bs, 0, 0⟩ [] from ⟨r2.below ((Below.refl _ _).alloc (Nat.le_refl _) _), fun k hk => Nat.le_trans B1.out.size (n2 k hk), (B1.out.trans (b2.mono B1.out.size)).alloc (B1.out.trans (b2.mono B1.out.size)).size _,
    _, Wtr.new w2, fun k hk => by subst hk; exact ⟨fun ho => by have := r2.lt _ ho; omega, (B1.out.trans (b2.mono B1.out.size)).size⟩⟩)
  clear r2 b2 n2 NR
  have S0 := Lib.hid (show Same bs 0 ⟨bs, 0, 0⟩ [] from ⟨rfl, K2.out.rdr.ok, .inl rfl, fun _ => rfl, Nat.zero_le _⟩)
  go_wp2_with fail
  generalize w2.alloc (.cells #[.slice none 0 0] 41) = w3 at K2 ⊢
  generalize w2.heap.size = p at K2 ⊢
  go_loopw [6] (fun i wr => ∃ (k : Nat) (s : RS) (ds : List Nat), k ≤ len ∧ i = .int .i64 (k : Int) ∧ Same bs k s ds ∧ RW w wr g p O s ds) (fun i _ => len - (intOf i).toNat)
  case atStart => exact ⟨0, _, _, Nat.zero_le _, rfl, S0.out, K2.out⟩
  case round =>
    obtain ⟨k, s, ds, hk, rfl, hsame, hrw⟩ := hrel
    have HS1 := Lib.hid hsame
    have K := Lib.hid hrw
    clear hsame hrw K2
    by_cases hlt : k < len
    · have CE := Lib.hid K.out.end_
      have CG := Lib.hid (fun w' (h : RW w w' g p O s ds) => h.get)
      go_wp2_with fail
      refine CE.out.mono ?_
      rintro e w4 ⟨rfl, k4⟩
      have K4 := Lib.hid k4
      clear k4 CE
      by_cases h12 : s.end_ = 12
      · rw [h12]
        have C4 := Lib.hid (CG.out _ K4.out)
        obtain ⟨hnx, hends⟩ := HS1.out.next
        have HN := Lib.hid hnx
        have hr := num_range HS1.out.ok
        have hdl : ds.length ≤ 1000000000 := by have := HS1.out.len; omega
        clear hnx CG h12
        go_wp2_with fail
        refine C4.out.mono ?_
        rintro e w5 ⟨rfl, k5⟩
        have K5 := Lib.hid k5
        have CE := Lib.hid k5.end_
        clear k5 C4 K4 K
        generalize s.num.1 = v at *
        generalize s.num.2 = s' at *
        go_wp2_with fail
        refine CE.out.mono ?_
        rintro e w6 ⟨rfl, k6⟩
        have K6 := Lib.hid k6
        clear k6 CE K5
        have hwr : s'.end_ = 0 ∨ s'.end_ = 12 ∨ (¬ s'.end_ = 0 ∧ ¬ s'.end_ = 12 ∧ s'.e = 13) := by
          by_cases h0 : s'.end_ = 0
          · exact .inl h0
          by_cases h1 : s'.end_ = 12
          · exact .inr (.inl h1)
          · exact .inr (.inr ⟨h0, h1, by
              have := hends
              by_cases h2 : s'.e = 13
              · exact h2
              · exact absurd (this.2 h2) (by omega)⟩)
        rcases hwr with h0 | h0 | ⟨h0, h1, h2⟩
        · have hne : s'.e ≠ 13 := hends.1 (.inl h0)
          rw [if_neg hne] at HN
          rw [h0]
          have CW := Lib.hid (K6.out.num v hr.1 hr.2 hdl)
          clear hends
          go_wp2_with fail
          refine CW.out.mono ?_
          rintro e w7 ⟨rfl, k7⟩
          have K7 := Lib.hid k7
          clear k7 CW K6
          go_wp2
          go_roundw
          case rel => exact ⟨k + 1, s', _, by omega, by go_num, HN.out, K7.out⟩
          case measure => simp [intOf]; omega
        · have hne : s'.e ≠ 13 := hends.1 (.inr h0)
          rw [if_neg hne] at HN
          rw [h0]
          have CE := Lib.hid K6.out.end_
          rw [h0] at CE
          clear hends
          go_wp2_with fail
          refine CE.out.mono ?_
          rintro e w6b ⟨rfl, k6b⟩
          have CW := Lib.hid (k6b.num v hr.1 hr.2 hdl)
          clear k6b CE K6
          go_wp2_with (go_at_call 20; refine CW.out.mono ?_; rintro e w7 ⟨rfl, k7⟩; have K7 := Lib.hid k7; clear k7 CW)
          go_roundw
          case rel => exact ⟨k + 1, s', _, by omega, by go_num, HN.out, K7.out⟩
          case measure => simp [intOf]; omega
        · rw [if_pos h2] at HN
          have CE := Lib.hid K6.out.end_
          have z0 : ¬ ((s'.end_ : Nat) : Int) = 0 := by omega
          have z1 : ¬ ((s'.end_ : Nat) : Int) = 12 := by omega
          have y0 : (((s'.end_ : Nat) : Int) == 0) = false := by simp; omega
          have y1 : (((s'.end_ : Nat) : Int) == 12) = false := by simp; omega
          clear hends h0 h1
          go_wp2_with fail
          refine CE.out.mono ?_
          rintro e w7 ⟨rfl, k7⟩
          have K7 := Lib.hid k7
          clear k7 CE K6
          go_wp2
          go_roundw
          case rel => exact ⟨k + 1, s', _, by omega, by go_num, HN.out, K7.out⟩
          case measure => simp [intOf]; omega
      · have h12' : ¬ ((s.end_ : Nat) : Int) = 12 := by omega
        clear CG
        have CT := Lib.hid K4.out.end_
        go_wp2_with fail
        refine CT.out.mono ?_
        rintro e w7 ⟨rfl, k7⟩
        have K7 := Lib.hid k7
        clear k7 CT
        by_cases hz : s.end_ = 0
        · rw [hz]
          have hall : ds = bs := by
            have h1 : s.e = 0 ∧ ¬ s.n < s.bs.length := by
              unfold RS.end_ at hz
              split at hz
              · cases hz
              · rename_i hh; exact ⟨hz, fun hx => hh ⟨hz, hx⟩⟩
            rw [HS1.out.same h1.1, ← HS1.out.eq, List.take_of_length_le (by omega)]
          have CB : Hid (Calls Try.prog 24 #[.pointer (some ⟨p, 0, none⟩)] w7.drew fun e w' => ∃ a c, e = .returned (.slice a len c) ∧ Sl w' w'.heap.size a len c bs ∧ Below w.heap.size w w') := by
            obtain ⟨Q, q1, q2⟩ := K7.out.wtr
            rw [hall] at q1
            rw [← hl]
            refine (wbytes_any (q1.below (Below.drew (Below.refl _ _))) (by omega)).mono fun e w' ⟨a, c, x1, x2, x3, _⟩ => ⟨a, c, x1, x2, K7.out.below.trans (((Below.drew (Below.refl _ _)).trans x3).mono K7.out.below.size)⟩
          have RB := fun (x : World) (hx : Below w.heap.size w x) => run_str (P := Try.prog) ((HS.out.below hx (Nat.le_refl _)).more hx.size) 22 5 9 Try.underlying22 Try.underlying5 Try.underlying9
          have RB7 := RB w7.drew (Below.drew K7.out.below)
          have RBH := Lib.hid RB
          clear RB
          go_wp2_with fail
          refine wp_region_held_drew (S := fun x => (convert 22 9 (.slice a len cap)).run Try.prog x = .ok (.string (strOf bs)) x) (by kernel_rfl) RB7 (fun hHeld => ?_)
          refine wpAnyH_take (i := 0) (v := ?_) rfl (by kernel_rfl) (by kernel_rfl) (by kernel_rfl) (fun _ _ _ h => h) (Or.inl ⟨by rfl, ?_⟩) (by assumption) ?_
          rotate_left
          · intro w hSw
            (try dsimp only at hSw)
            go_simp
            all_goals with_reducible rfl
          try simp only [Act.put, List.getElem_toArray, List.getElem_cons_succ, List.getElem_cons_zero, List.setIfInBounds_toArray, List.set_cons_zero, List.set_cons_succ]
          refine wpAnyH_take (i := 1) (v := ?_) rfl (by kernel_rfl) (by kernel_rfl) (by kernel_rfl) (fun _ _ _ h => h) (Or.inl ⟨by rfl, ?_⟩) (by assumption) ?_
          rotate_left
          · intro w hSw
            (try dsimp only at hSw)
            go_simp
            all_goals with_reducible rfl
          try simp only [Act.put, List.getElem_toArray, List.getElem_cons_succ, List.getElem_cons_zero, List.setIfInBounds_toArray, List.set_cons_zero, List.set_cons_succ]
          refine wpAnyH_take (i := 2) (v := ?_) rfl (by kernel_rfl) (by kernel_rfl) (by kernel_rfl) (fun _ _ _ h => h) (Or.inl ⟨by rfl, ?_⟩) (by assumption) ?_
          rotate_left
          · intro w hSw
            (try dsimp only at hSw)
            go_simp
            all_goals with_reducible rfl
          try simp only [Act.put, List.getElem_toArray, List.getElem_cons_succ, List.getElem_cons_zero, List.setIfInBounds_toArray, List.set_cons_zero, List.set_cons_succ]
          refine wpAnyH_take (i := 5) (v := ?_) rfl (by kernel_rfl) (by kernel_rfl) (by kernel_rfl) (fun _ _ _ h => h) (Or.inl ⟨by rfl, ?_⟩) (by assumption) ?_
          rotate_left
          · intro w hSw
            (try dsimp only at hSw)
            go_simp
            all_goals with_reducible rfl
          try simp only [Act.put, List.getElem_toArray, List.getElem_cons_succ, List.getElem_cons_zero, List.setIfInBounds_toArray, List.set_cons_zero, List.set_cons_succ]
          refine wpAnyH_take (i := 6) (v := ?_) rfl (by kernel_rfl) (by kernel_rfl) (by kernel_rfl) (fun _ _ _ h => h) (Or.inl ⟨by rfl, ?_⟩) (by assumption) ?_
          rotate_left
          · intro w hSw
            (try dsimp only at hSw)
            go_simp
            all_goals with_reducible rfl
          try simp only [Act.put, List.getElem_toArray, List.getElem_cons_succ, List.getElem_cons_zero, List.setIfInBounds_toArray, List.set_cons_zero, List.set_cons_succ]
          refine wpAnyH_ready (rs := [3]) (by kernel_rfl) (by simp) ?_
          refine AllReadyH.cons rfl (fun K hK => ?_) AllReadyH.nil
          rw [if_pos (by rfl)]
          go_simp
          go_at_call 24
          refine CB.out.mono ?_
          rintro e w8 ⟨a8, c8, rfl, s8, b8⟩
          have RB8 := RBH.out w8 b8
          have RS8 := run_str (P := Try.prog) s8 22 5 9 Try.underlying22 Try.underlying5 Try.underlying9
          have B8 := Lib.hid b8
          clear s8 b8
          refine hK.out _ _ ?_ (fun hHeld => ?_)
          · exact RB8
          clear hK K
          try simp only [Act.put, List.getElem_toArray, List.getElem_cons_succ, List.getElem_cons_zero, List.setIfInBounds_toArray, List.set_cons_zero, List.set_cons_succ]
          refine wpAnyH_ready (rs := [4]) (by kernel_rfl) (by simp) ?_
          refine AllReadyH.cons rfl (fun K hK => ?_) AllReadyH.nil
          rw [if_pos (by rfl)]
          go_simp
          refine hK.out _ _ ?_ (fun hHeld => ?_)
          · exact RB8
          clear hK K
          try simp only [Act.put, List.getElem_toArray, List.getElem_cons_succ, List.getElem_cons_zero, List.setIfInBounds_toArray, List.set_cons_zero, List.set_cons_succ]
          refine wpAnyH_take (i := 7) (v := ?_) rfl (by kernel_rfl) (by kernel_rfl) (by kernel_rfl) (fun _ _ _ h => h) (Or.inl ⟨by rfl, ?_⟩) (by assumption) ?_
          rotate_left
          · intro w hSw
            (try dsimp only at hSw)
            go_simp
            all_goals with_reducible rfl
          try simp only [Act.put, List.getElem_toArray, List.getElem_cons_succ, List.getElem_cons_zero, List.setIfInBounds_toArray, List.set_cons_zero, List.set_cons_succ]
          refine wpAnyH_take (i := 8) (v := ?_) rfl (by kernel_rfl) (by kernel_rfl) (by kernel_rfl) (fun _ _ _ h => h) (Or.inl ⟨by rfl, ?_⟩) (by assumption) ?_
          rotate_left
          · intro w hSw
            (try dsimp only at hSw)
            go_simp
            all_goals with_reducible rfl
          try simp only [Act.put, List.getElem_toArray, List.getElem_cons_succ, List.getElem_cons_zero, List.setIfInBounds_toArray, List.set_cons_zero, List.set_cons_succ]
          refine wpAnyH_take (i := 9) (v := ?_) rfl (by kernel_rfl) (by kernel_rfl) (by kernel_rfl) (fun _ _ _ h => h) (Or.inl ⟨by rfl, ?_⟩) (by assumption) ?_
          rotate_left
          · intro w hSw
            (try dsimp only at hSw)
            go_simp
            all_goals with_reducible rfl
          try simp only [Act.put, List.getElem_toArray, List.getElem_cons_succ, List.getElem_cons_zero, List.setIfInBounds_toArray, List.set_cons_zero, List.set_cons_succ]
          refine wpAnyH_done (by kernel_rfl) ?_ _
          clear hHeld RB8 RS8 RB7
          go_wp2
          go_ret
          exact ⟨rfl, B8.out⟩
        · have hz' : ¬ ((s.end_ : Nat) : Int) = 0 := by omega
          go_wp2
          go_ret
          exact ⟨rfl, K7.out.below⟩
    · have hkl : ¬ (k : Int) < (len : Int) := by omega
      have CT := Lib.hid K.out.end_
      go_wp2_with fail
      refine CT.out.mono ?_
      rintro e w7 ⟨rfl, k7⟩
      have K7 := Lib.hid k7
      clear k7 CT
      by_cases hz : s.end_ = 0
      · rw [hz]
        have hall : ds = bs := by
          have h1 : s.e = 0 ∧ ¬ s.n < s.bs.length := by
            unfold RS.end_ at hz
            split at hz
            · cases hz
            · rename_i hh; exact ⟨hz, fun hx => hh ⟨hz, hx⟩⟩
          rw [HS1.out.same h1.1, ← HS1.out.eq, List.take_of_length_le (by omega)]
        have CB : Hid (Calls Try.prog 24 #[.pointer (some ⟨p, 0, none⟩)] w7.drew fun e w' => ∃ a c, e = .returned (.slice a len c) ∧ Sl w' w'.heap.size a len c bs ∧ Below w.heap.size w w') := by
          obtain ⟨Q, q1, q2⟩ := K7.out.wtr
          rw [hall] at q1
          rw [← hl]
          refine (wbytes_any (q1.below (Below.drew (Below.refl _ _))) (by omega)).mono fun e w' ⟨a, c, x1, x2, x3, _⟩ => ⟨a, c, x1, x2, K7.out.below.trans (((Below.drew (Below.refl _ _)).trans x3).mono K7.out.below.size)⟩
        have RB := fun (x : World) (hx : Below w.heap.size w x) => run_str (P := Try.prog) ((HS.out.below hx (Nat.le_refl _)).more hx.size) 22 5 9 Try.underlying22 Try.underlying5 Try.underlying9
        have RB7 := RB w7.drew (Below.drew K7.out.below)
        have RBH := Lib.hid RB
        clear RB
        go_wp2_with fail
        refine wp_region_held_drew (S := fun x => (convert 22 9 (.slice a len cap)).run Try.prog x = .ok (.string (strOf bs)) x) (by kernel_rfl) RB7 (fun hHeld => ?_)
        refine wpAnyH_take (i := 0) (v := ?_) rfl (by kernel_rfl) (by kernel_rfl) (by kernel_rfl) (fun _ _ _ h => h) (Or.inl ⟨by rfl, ?_⟩) (by assumption) ?_
        rotate_left
        · intro w hSw
          (try dsimp only at hSw)
          go_simp
          all_goals with_reducible rfl
        try simp only [Act.put, List.getElem_toArray, List.getElem_cons_succ, List.getElem_cons_zero, List.setIfInBounds_toArray, List.set_cons_zero, List.set_cons_succ]
        refine wpAnyH_take (i := 1) (v := ?_) rfl (by kernel_rfl) (by kernel_rfl) (by kernel_rfl) (fun _ _ _ h => h) (Or.inl ⟨by rfl, ?_⟩) (by assumption) ?_
        rotate_left
        · intro w hSw
          (try dsimp only at hSw)
          go_simp
          all_goals with_reducible rfl
        try simp only [Act.put, List.getElem_toArray, List.getElem_cons_succ, List.getElem_cons_zero, List.setIfInBounds_toArray, List.set_cons_zero, List.set_cons_succ]
        refine wpAnyH_take (i := 2) (v := ?_) rfl (by kernel_rfl) (by kernel_rfl) (by kernel_rfl) (fun _ _ _ h => h) (Or.inl ⟨by rfl, ?_⟩) (by assumption) ?_
        rotate_left
        · intro w hSw
          (try dsimp only at hSw)
          go_simp
          all_goals with_reducible rfl
        try simp only [Act.put, List.getElem_toArray, List.getElem_cons_succ, List.getElem_cons_zero, List.setIfInBounds_toArray, List.set_cons_zero, List.set_cons_succ]
        refine wpAnyH_take (i := 5) (v := ?_) rfl (by kernel_rfl) (by kernel_rfl) (by kernel_rfl) (fun _ _ _ h => h) (Or.inl ⟨by rfl, ?_⟩) (by assumption) ?_
        rotate_left
        · intro w hSw
          (try dsimp only at hSw)
          go_simp
          all_goals with_reducible rfl
        try simp only [Act.put, List.getElem_toArray, List.getElem_cons_succ, List.getElem_cons_zero, List.setIfInBounds_toArray, List.set_cons_zero, List.set_cons_succ]
        refine wpAnyH_take (i := 6) (v := ?_) rfl (by kernel_rfl) (by kernel_rfl) (by kernel_rfl) (fun _ _ _ h => h) (Or.inl ⟨by rfl, ?_⟩) (by assumption) ?_
        rotate_left
        · intro w hSw
          (try dsimp only at hSw)
          go_simp
          all_goals with_reducible rfl
        try simp only [Act.put, List.getElem_toArray, List.getElem_cons_succ, List.getElem_cons_zero, List.setIfInBounds_toArray, List.set_cons_zero, List.set_cons_succ]
        refine wpAnyH_ready (rs := [3]) (by kernel_rfl) (by simp) ?_
        refine AllReadyH.cons rfl (fun K hK => ?_) AllReadyH.nil
        rw [if_pos (by rfl)]
        go_simp
        go_at_call 24
        refine CB.out.mono ?_
        rintro e w8 ⟨a8, c8, rfl, s8, b8⟩
        have RB8 := RBH.out w8 b8
        have RS8 := run_str (P := Try.prog) s8 22 5 9 Try.underlying22 Try.underlying5 Try.underlying9
        have B8 := Lib.hid b8
        clear s8 b8
        refine hK.out _ _ ?_ (fun hHeld => ?_)
        · exact RB8
        clear hK K
        try simp only [Act.put, List.getElem_toArray, List.getElem_cons_succ, List.getElem_cons_zero, List.setIfInBounds_toArray, List.set_cons_zero, List.set_cons_succ]
        refine wpAnyH_ready (rs := [4]) (by kernel_rfl) (by simp) ?_
        refine AllReadyH.cons rfl (fun K hK => ?_) AllReadyH.nil
        rw [if_pos (by rfl)]
        go_simp
        refine hK.out _ _ ?_ (fun hHeld => ?_)
        · exact RB8
        clear hK K
        try simp only [Act.put, List.getElem_toArray, List.getElem_cons_succ, List.getElem_cons_zero, List.setIfInBounds_toArray, List.set_cons_zero, List.set_cons_succ]
        refine wpAnyH_take (i := 7) (v := ?_) rfl (by kernel_rfl) (by kernel_rfl) (by kernel_rfl) (fun _ _ _ h => h) (Or.inl ⟨by rfl, ?_⟩) (by assumption) ?_
        rotate_left
        · intro w hSw
          (try dsimp only at hSw)
          go_simp
          all_goals with_reducible rfl
        try simp only [Act.put, List.getElem_toArray, List.getElem_cons_succ, List.getElem_cons_zero, List.setIfInBounds_toArray, List.set_cons_zero, List.set_cons_succ]
        refine wpAnyH_take (i := 8) (v := ?_) rfl (by kernel_rfl) (by kernel_rfl) (by kernel_rfl) (fun _ _ _ h => h) (Or.inl ⟨by rfl, ?_⟩) (by assumption) ?_
        rotate_left
        · intro w hSw
          (try dsimp only at hSw)
          go_simp
          all_goals with_reducible rfl
        try simp only [Act.put, List.getElem_toArray, List.getElem_cons_succ, List.getElem_cons_zero, List.setIfInBounds_toArray, List.set_cons_zero, List.set_cons_succ]
        refine wpAnyH_take (i := 9) (v := ?_) rfl (by kernel_rfl) (by kernel_rfl) (by kernel_rfl) (fun _ _ _ h => h) (Or.inl ⟨by rfl, ?_⟩) (by assumption) ?_
        rotate_left
        · intro w hSw
          (try dsimp only at hSw)
          go_simp
          all_goals with_reducible rfl
        try simp only [Act.put, List.getElem_toArray, List.getElem_cons_succ, List.getElem_cons_zero, List.setIfInBounds_toArray, List.set_cons_zero, List.set_cons_succ]
        refine wpAnyH_done (by kernel_rfl) ?_ _
        clear hHeld RB8 RS8 RB7
        go_wp2
        go_ret
        exact ⟨rfl, B8.out⟩
      · have hz' : ¬ ((s.end_ : Nat) : Int) = 0 := by omega
        go_wp2
        go_ret
        exact ⟨rfl, K7.out.below⟩
end Go.Proofs.Ytkmdnmjbjbkpdaa

/- WireWrites: the walk. -/
import Derived.Test.YtkmdnmjbjbkpdaaWrM
import Derived.Test.YtkmdnmjbjbkpdaaWireBackW
import Derived.Test.YtkmdnmjbjbkpdaaSls
import Derived.Test.YtkmdnmjbjbkpdaaHeld
namespace Go.Proofs.Ytkmdnmjbjbkpdaa
open Go.RowKit
open Wir

def encT (ts : List (List Nat)) : List Nat := ts.flatMap fun t => dg (cnt ((min t.length 900 : Nat) : Int)) ++ t.take 900
theorem encT_next (ts : List (List Nat)) (i : Nat) (h : i < ts.length) : encT (ts.take (i + 1)) = encT (ts.take i) ++ (dg (cnt ((min ts[i].length 900 : Nat) : Int)) ++ ts[i].take 900) := by
  rw [List.take_succ_eq_append_getElem h]
  unfold encT
  rw [List.flatMap_append, List.flatMap_cons, List.flatMap_nil, List.append_nil]
theorem encT_len (ts : List (List Nat)) : (encT ts).length ≤ 910 * ts.length := by
  induction ts with
  | nil => simp [encT]
  | cons t ts ih =>
    have h2 := dg_le (cnt_lt (n := ((min t.length 900 : Nat) : Int)) (by omega) (by omega))
    simp only [encT, List.flatMap_cons, List.length_append, List.length_cons, List.length_take] at *
    omega
/-- The two writers, side by side. -/
structure WH (w0 w : World) (p q : Nat) (ds es : List Nat) : Prop where
  ex : ∃ Q1 Q2, Wtr 41 w p ds Q1 ∧ Wtr 44 w q es Q2 ∧ (∀ k, Q1 k → w0.heap.size ≤ k ∧ ¬ Q2 k) ∧ (∀ k, Q2 k → w0.heap.size ≤ k)
  below : Below w0.heap.size w0 w
theorem WH.on {w0 w w' : World} {p q : Nat} {ds es : List Nat} (h : WH w0 w p q ds es) (hb : Below w.heap.size w w') : WH w0 w' p q ds es := by
  obtain ⟨Q1, Q2, h1, h2, h3, h4⟩ := h.ex
  exact ⟨⟨Q1, Q2, h1.below hb, h2.below hb, h3, h4⟩, h.below.trans (hb.mono h.below.size)⟩
theorem WH.num1 {w0 w : World} {p q : Nat} {ds es : List Nat} (h : WH w0 w p q ds es) (n : Int) (h1 : -9223372036854775808 ≤ n) (h2 : n ≤ 9223372036854775807) (hlen : ds.length ≤ 1000000000) :
    Calls Try.prog 20 #[.pointer (some ⟨p, 0, none⟩), .int .i64 n] w fun e w' => e = .returned (.tuple #[]) ∧ WH w0 w' p q (ds ++ dg (cnt n)) es := by
  obtain ⟨Q1, Q2, k1, k2, k3, k4⟩ := h.ex
  refine (wnum_any k1 n h1 h2 hlen).mono fun e w' ⟨he, Q', q1, q2, q3⟩ => ⟨he, ⟨Q', Q2, q1, k2.but q2 (fun k hq2 hq1 => (k3 k hq1).2 hq2), fun k hk => ?_, k4⟩, But.under h.below q2 (fun k hk => (k3 k hk).1)⟩
  rcases q3 k hk with h5 | h5
  · exact k3 k h5
  · exact ⟨Nat.le_trans h.below.size h5, fun hq => by have := k2.lt k hq; omega⟩
theorem WH.num2 {w0 w : World} {p q : Nat} {ds es : List Nat} (h : WH w0 w p q ds es) (n : Int) (h1 : -9223372036854775808 ≤ n) (h2 : n ≤ 9223372036854775807) (hlen : es.length ≤ 1000000000) :
    Calls Try.prog 21 #[.pointer (some ⟨q, 0, none⟩), .int .i64 n] w fun e w' => e = .returned (.tuple #[]) ∧ WH w0 w' p q ds (es ++ dg (cnt n)) := by
  obtain ⟨Q1, Q2, k1, k2, k3, k4⟩ := h.ex
  refine (rwnum_any k2 n h1 h2 hlen).mono fun e w' ⟨he, Q', q1, q2, q3⟩ => ⟨he, ⟨Q1, Q', k1.but q2 (fun k hq1 hq2 => (k3 k hq1).2 hq2), q1, fun k hk => ⟨(k3 k hk).1, fun hq => ?_⟩, fun k hk => ?_⟩, But.under h.below q2 k4⟩
  · rcases q3 k hq with h5 | h5
    · exact (k3 k hk).2 h5
    · have := k1.lt k hk; omega
  · rcases q3 k hk with h5 | h5
    · exact k4 k h5
    · exact Nat.le_trans h.below.size h5
theorem WH.text1 {w0 w : World} {p q : Nat} {ds es : List Nat} (h : WH w0 w p q ds es) (a : Option Addr) (len cap : Nat) (t : List Nat) (hs : Sl w0 w0.heap.size a len cap t) (hlen : ds.length ≤ 1000000000) (hl : len ≤ 1000000000) :
    Calls Try.prog 22 #[.pointer (some ⟨p, 0, none⟩), .slice a len cap] w fun e w' => e = .returned (.tuple #[]) ∧ WH w0 w' p q (ds ++ (dg (cnt (len : Int)) ++ t)) es := by
  obtain ⟨Q1, Q2, k1, k2, k3, k4⟩ := h.ex
  refine (wtext_any k1 a len cap t ((hs.below h.below (Nat.le_refl _)).more h.below.size) (fun hp b o e ho => by have := hs.in_ hp e; have := (k3 b ho).1; omega) hlen hl).mono fun e w' ⟨he, Q', q1, q2, q3⟩ =>
    ⟨he, ⟨Q', Q2, q1, k2.but q2 (fun k hq2 hq1 => (k3 k hq1).2 hq2), fun k hk => ?_, k4⟩, But.under h.below q2 (fun k hk => (k3 k hk).1)⟩
  rcases q3 k hk with h5 | h5
  · exact k3 k h5
  · exact ⟨Nat.le_trans h.below.size h5, fun hq => by have := k2.lt k hq; omega⟩
theorem WH.text2 {w0 w : World} {p q : Nat} {ds es : List Nat} (h : WH w0 w p q ds es) (a : Option Addr) (len cap : Nat) (t : List Nat) (hs : Sl w0 w0.heap.size a len cap t) (hlen : es.length ≤ 1000000000) (hl : len ≤ 1000000000) :
    Calls Try.prog 23 #[.pointer (some ⟨q, 0, none⟩), .slice a len cap] w fun e w' => e = .returned (.tuple #[]) ∧ WH w0 w' p q ds (es ++ (dg (cnt (len : Int)) ++ t)) := by
  obtain ⟨Q1, Q2, k1, k2, k3, k4⟩ := h.ex
  refine (rwtext_any k2 a len cap t ((hs.below h.below (Nat.le_refl _)).more h.below.size) (fun hp b o e ho => by have := hs.in_ hp e; have := k4 b ho; omega) hlen hl).mono fun e w' ⟨he, Q', q1, q2, q3⟩ =>
    ⟨he, ⟨Q1, Q', k1.but q2 (fun k hq1 hq2 => (k3 k hq1).2 hq2), q1, fun k hk => ⟨(k3 k hk).1, fun hq => ?_⟩, fun k hk => ?_⟩, But.under h.below q2 k4⟩
  · rcases q3 k hq with h5 | h5
    · exact (k3 k hk).2 h5
    · have := k1.lt k hk; omega
  · rcases q3 k hk with h5 | h5
    · exact k4 k h5
    · exact Nat.le_trans h.below.size h5
set_option linter.unusedSimpArgs false in
set_option maxRecDepth 100000 in
set_option maxHeartbeats 3200000 in
theorem wireWrites_walk (ka : Option Addr) (kn kc : Nat) (ks : List Int) (ta : Option Addr) (tn tc : Nat) (ts : List (List Nat)) (w : World) (hkr : Row w w.heap.size ka kn kc 1 (intsC ks)) (hkl : ks.length = kn)
    (hu : ∀ k ∈ ks, -9223372036854775808 ≤ k ∧ k ≤ 9223372036854775807) (hs : Sls w w.heap.size ta tn tc ts) :
    Calls Try.prog 4 #[.slice ka kn kc, .slice ta tn tc] w fun e w' => e = .returned (.bool true) ∧ Below w.heap.size w w' := by
  have HS := Lib.hid hs
  have HK := Lib.hid hkr
  have HU := Lib.hid hu
  have htl := hs.length
  clear hs hkr hu
  go_enter Try.func4, Try.ntmps4
  go_wp2_with fail
  refine (head_any _).mono ?_
  rintro e w1 ⟨rfl, hb1⟩
  have B1 := Lib.hid hb1
  clear hb1
  have B3 : Below w.heap.size w ((w1.alloc (.cells #[.slice none 0 0] 41)).alloc (.cells #[.slice none 0 0] 44)) := (B1.out.alloc B1.out.size _).alloc (by have := B1.out.size; simp; omega) _
  have B3 := Lib.hid B3
  by_cases h3 : 900 < kn
  · have h3' : (900 : Int) < (kn : Int) := by omega
    go_wp2
    go_ret
    exact ⟨rfl, B3.out⟩
  have h3' : (kn : Int) ≤ 900 := by omega
  by_cases h4 : 300 < tn
  · have h4' : (300 : Int) < (tn : Int) := by omega
    go_wp2
    go_ret
    exact ⟨rfl, B3.out⟩
  have h4' : (tn : Int) ≤ 300 := by omega
  have W0 : Hid (WH w ((w1.alloc (.cells #[.slice none 0 0] 41)).alloc (.cells #[.slice none 0 0] 44)) w1.heap.size (w1.heap.size + 1) [] []) :=
    ⟨⟨_, _, (Wtr.new w1).below ((Below.refl _ _).alloc (Nat.le_refl _) _), by have := Wtr.new (T := 44) (w1.alloc (.cells #[.slice none 0 0] 41)); rw [show (w1.alloc (.cells #[.slice none 0 0] 41)).heap.size = w1.heap.size + 1 from by simp] at this; exact this,
      fun k hk => by subst hk; exact ⟨B1.out.size, fun h => by omega⟩, fun k hk => by have := B1.out.size; omega⟩, B3.out⟩
  go_wp2_with fail
  generalize (w1.alloc (.cells #[.slice none 0 0] 41)).alloc (.cells #[.slice none 0 0] 44) = w2 at W0 ⊢
  generalize w1.heap.size + 1 = q at W0 ⊢
  generalize w1.heap.size = p at W0 ⊢
  go_loopw [8] (fun i wr => ∃ k : Nat, k ≤ kn ∧ i = .int .i64 (k : Int) ∧ WH w wr p q (encN (ks.take k)) (encN (ks.take k))) (fun i _ => kn - (intOf i).toNat)
  case atStart => exact ⟨0, Nat.zero_le _, rfl, by simpa [encN] using W0.out⟩
  case round =>
    obtain ⟨k, hk, rfl, hwk⟩ := hrel
    have W := Lib.hid hwk
    clear hwk W0
    by_cases hlt : k < kn
    · have hkm : k < ks.length := by omega
      have hkk := HU.out ks[k] (List.getElem_mem _)
      have hnx := Lib.hid (encN_next ks k hkm)
      have hlen1 : (encN (ks.take k)).length ≤ 1000000000 := by
        have h1 := encN_len (ks.take k) (fun x hx => HU.out x (List.mem_of_mem_take hx))
        have h2 : (ks.take k).length ≤ 900 := by rw [List.length_take]; omega
        omega
      have hrow : Row wr wr.heap.size ka kn kc 1 (intsC ks) := (HK.out.below W.out.below (Nat.le_refl _)).more W.out.below.size
      have HR := Lib.hid (fun (x : World) (hx : Below w.heap.size w x) => (HK.out.below hx (Nat.le_refl _)))
      obtain ⟨b, o, rfl, _, hc⟩ := hrow.at_ (by omega)
      have c1 := hc k (by omega)
      simp only [intsC] at c1
      rw [List.getD_eq_getElem?_getD, List.getElem?_eq_getElem hkm, Option.getD_some] at c1
      clear hc hrow
      have CW := Lib.hid (W.out.num1 ks[k] hkk.1 hkk.2 hlen1)
      go_wp2_with fail
      refine CW.out.mono ?_
      rintro e w3 ⟨rfl, k3⟩
      have K3 := Lib.hid k3
      clear k3 CW c1
      have C2 := Lib.hid (K3.out.num2 ks[k] hkk.1 hkk.2 hlen1)
      obtain ⟨b', o', e', _, hc⟩ := (HR.out w3 K3.out.below).at_ (by omega)
      injection e' with e'
      injection e' with e1 e2
      subst e1 e2
      have c1 := hc k (by omega)
      simp only [intsC] at c1
      rw [List.getD_eq_getElem?_getD, List.getElem?_eq_getElem hkm, Option.getD_some] at c1
      clear hc
      generalize ks[k] = v at *
      go_wp2_with fail
      refine C2.out.mono ?_
      rintro e w4 ⟨rfl, k4⟩
      rw [← hnx.out] at k4
      have K4 := Lib.hid k4
      clear k4 C2 c1 K3
      go_wp2
      go_roundw
      case rel => exact ⟨k + 1, by omega, by go_num, K4.out⟩
      case measure => simp [intOf]; omega
    · have hkn : k = kn := by omega
      subst hkn
      rw [List.take_of_length_le (by omega)] at W
      have hE : (encN ks).length ≤ 9000 := by have := encN_len ks HU.out; omega
      have hE := Lib.hid hE
      go_wp2_with fail
      go_loopw [9] (fun i wx => ∃ k2 : Nat, k2 ≤ tn ∧ i = .int .i64 (k2 : Int) ∧ WH w wx p q (encN ks ++ encT (ts.take k2)) (encN ks ++ encT (ts.take k2))) (fun i _ => tn - (intOf i).toNat)
      case atStart => exact ⟨0, Nat.zero_le _, rfl, by simpa [encT] using W.out⟩
      case round =>
        obtain ⟨k2, hk2, rfl, hwk⟩ := hrel
        have W2 := Lib.hid hwk
        clear hwk W
        have hD : (encN ks ++ encT (ts.take k2)).length ≤ 300000 := by
          have h1 := encT_len (ts.take k2)
          have h2 : (ts.take k2).length ≤ 300 := by rw [List.length_take]; omega
          have h3 := hE.out
          rw [List.length_append]; omega
        by_cases hlt2 : k2 < tn
        · have hkm : k2 < ts.length := by omega
          have hnx := Lib.hid (encT_next ts k2 hkm)
          obtain ⟨b, o, rfl, _, hc⟩ := HS.out.at_ (by omega)
          obtain ⟨ba, bc, hcell, hsl⟩ := hc k2 ts[k2] (List.getElem?_eq_getElem hkm)
          obtain ⟨m, hm⟩ : ∃ m, m = min ts[k2].length 900 := ⟨_, rfl⟩
          have hst := hsl.take (k := m) (by omega)
          have htk : ts[k2].take m = ts[k2].take 900 := by
            rw [hm]
            rcases Nat.le_total ts[k2].length 900 with h | h
            · rw [Nat.min_eq_left h, List.take_of_length_le (Nat.le_refl _), List.take_of_length_le h]
            · rw [Nat.min_eq_right h]
          rw [htk] at hst
          rw [← hm] at hnx
          have m1 := fun (x : World) => min_any (ts[k2].length : Int) 900 x
          rw [show min (ts[k2].length : Int) 900 = (m : Int) from by omega] at m1
          have hm9 : m ≤ 900 := by omega
          have c5 := run_cut_to (P := Try.prog) 22 5 Try.underlying22 info_u8 ba ts[k2].length bc m (by have := hsl.le; omega)
          have C0 := Lib.hid (fun (x : World) (hx : Below w.heap.size w x) => (hx.cell (p := ⟨b, o + k2, none⟩) (block_lt_of_cell hcell)).trans hcell)
          have ST := Lib.hid hst
          clear hc hcell hsl hst htk hm
          generalize ts[k2].take 900 = X at hnx ST
          generalize ts[k2].length = n2 at *
          have T1 := Lib.hid (W2.out.on (Below.drew (Below.refl _ _)))
          have CX := Lib.hid (T1.out.text1 ba m bc X ST.out (by omega) (by omega))
          go_wp2_with fail
          refine wp_region_held_drew (S := fun x => x.cell? ⟨b, o + k2, none⟩ = some (.slice ba n2 bc)) (by kernel_rfl) (C0.out _ T1.out.below) (fun hHeld => ?_)
          refine wpAnyH_take (i := 0) (v := ?_) rfl (by kernel_rfl) (by kernel_rfl) (by kernel_rfl) (fun _ _ _ h => h) (Or.inl ⟨by rfl, ?_⟩) (by assumption) ?_
          rotate_left
          · intro w hSw
            (try dsimp only at hSw)
            go_simp
            all_goals with_reducible rfl
          try simp only [Act.put, List.getElem_toArray, List.getElem_cons_succ, List.getElem_cons_zero, List.setIfInBounds_toArray, List.set_cons_zero, List.set_cons_succ]
          refine wpAnyH_take (i := 1) (v := ?_) rfl (by kernel_rfl) (by kernel_rfl) (by kernel_rfl) (fun _ _ _ h => h) (Or.inl ⟨by rfl, ?_⟩) (by assumption) ?_
          rotate_left
          · intro w hSw
            (try dsimp only at hSw)
            go_simp
            all_goals with_reducible rfl
          try simp only [Act.put, List.getElem_toArray, List.getElem_cons_succ, List.getElem_cons_zero, List.setIfInBounds_toArray, List.set_cons_zero, List.set_cons_succ]
          refine wpAnyH_take (i := 2) (v := ?_) rfl (by kernel_rfl) (by kernel_rfl) (by kernel_rfl) (fun _ _ _ h => h) (Or.inl ⟨by rfl, ?_⟩) (by assumption) ?_
          rotate_left
          · intro w hSw
            (try dsimp only at hSw)
            go_simp
            all_goals with_reducible rfl
          try simp only [Act.put, List.getElem_toArray, List.getElem_cons_succ, List.getElem_cons_zero, List.setIfInBounds_toArray, List.set_cons_zero, List.set_cons_succ]
          refine wpAnyH_take (i := 3) (v := ?_) rfl (by kernel_rfl) (by kernel_rfl) (by kernel_rfl) (fun _ _ _ h => h) (Or.inl ⟨by rfl, ?_⟩) (by assumption) ?_
          rotate_left
          · intro w hSw
            (try dsimp only at hSw)
            go_simp
            all_goals with_reducible rfl
          try simp only [Act.put, List.getElem_toArray, List.getElem_cons_succ, List.getElem_cons_zero, List.setIfInBounds_toArray, List.set_cons_zero, List.set_cons_succ]
          refine wpAnyH_take (i := 4) (v := ?_) rfl (by kernel_rfl) (by kernel_rfl) (by kernel_rfl) (fun _ _ _ h => h) (Or.inl ⟨by rfl, ?_⟩) (by assumption) ?_
          rotate_left
          · intro w hSw
            (try dsimp only at hSw)
            go_simp
            all_goals with_reducible rfl
          try simp only [Act.put, List.getElem_toArray, List.getElem_cons_succ, List.getElem_cons_zero, List.setIfInBounds_toArray, List.set_cons_zero, List.set_cons_succ]
          refine wpAnyH_take (i := 5) (v := ?_) rfl (by kernel_rfl) (by kernel_rfl) (by kernel_rfl) (fun _ _ _ h => h) (Or.inl ⟨by rfl, ?_⟩) (by assumption) ?_
          rotate_left
          · intro w hSw
            (try dsimp only at hSw)
            go_simp
            all_goals with_reducible rfl
          try simp only [Act.put, List.getElem_toArray, List.getElem_cons_succ, List.getElem_cons_zero, List.setIfInBounds_toArray, List.set_cons_zero, List.set_cons_succ]
          refine wpAnyH_take (i := 6) (v := ?_) rfl (by kernel_rfl) (by kernel_rfl) (by kernel_rfl) (fun _ _ _ h => h) (Or.inl ⟨by rfl, ?_⟩) (by assumption) ?_
          rotate_left
          · intro w hSw
            (try dsimp only at hSw)
            go_simp
            all_goals with_reducible rfl
          try simp only [Act.put, List.getElem_toArray, List.getElem_cons_succ, List.getElem_cons_zero, List.setIfInBounds_toArray, List.set_cons_zero, List.set_cons_succ]
          refine wpAnyH_take (i := 7) (v := ?_) rfl (by kernel_rfl) (by kernel_rfl) (by kernel_rfl) (fun _ _ _ h => h) (Or.inl ⟨by rfl, ?_⟩) (by assumption) ?_
          rotate_left
          · intro w hSw
            (try dsimp only at hSw)
            go_simp
            all_goals with_reducible rfl
          try simp only [Act.put, List.getElem_toArray, List.getElem_cons_succ, List.getElem_cons_zero, List.setIfInBounds_toArray, List.set_cons_zero, List.set_cons_succ]
          refine wpAnyH_take (i := 8) (v := ?_) rfl (by kernel_rfl) (by kernel_rfl) (by kernel_rfl) (fun _ _ _ h => h) (Or.inl ⟨by rfl, ?_⟩) (by assumption) ?_
          rotate_left
          · intro w hSw
            (try dsimp only at hSw)
            go_simp
            all_goals with_reducible rfl
          try simp only [Act.put, List.getElem_toArray, List.getElem_cons_succ, List.getElem_cons_zero, List.setIfInBounds_toArray, List.set_cons_zero, List.set_cons_succ]
          refine wpAnyH_take (i := 9) (v := ?_) rfl (by kernel_rfl) (by kernel_rfl) (by kernel_rfl) (fun _ _ _ h => h) (Or.inl ⟨by rfl, ?_⟩) (by assumption) ?_
          rotate_left
          · intro w hSw
            (try dsimp only at hSw)
            go_simp
            all_goals with_reducible rfl
          try simp only [Act.put, List.getElem_toArray, List.getElem_cons_succ, List.getElem_cons_zero, List.setIfInBounds_toArray, List.set_cons_zero, List.set_cons_succ]
          refine wpAnyH_take (i := 10) (v := ?_) rfl (by kernel_rfl) (by kernel_rfl) (by kernel_rfl) (fun _ _ _ h => h) (Or.inl ⟨by rfl, ?_⟩) (by assumption) ?_
          rotate_left
          · intro w hSw
            (try dsimp only at hSw)
            go_simp
            all_goals with_reducible rfl
          try simp only [Act.put, List.getElem_toArray, List.getElem_cons_succ, List.getElem_cons_zero, List.setIfInBounds_toArray, List.set_cons_zero, List.set_cons_succ]
          refine wpAnyH_take (i := 11) (v := ?_) rfl (by kernel_rfl) (by kernel_rfl) (by kernel_rfl) (fun _ _ _ h => h) (Or.inl ⟨by rfl, ?_⟩) (by assumption) ?_
          rotate_left
          · intro w hSw
            (try dsimp only at hSw)
            go_simp
            all_goals with_reducible rfl
          try simp only [Act.put, List.getElem_toArray, List.getElem_cons_succ, List.getElem_cons_zero, List.setIfInBounds_toArray, List.set_cons_zero, List.set_cons_succ]
          refine wpAnyH_ready (rs := [12]) (by kernel_rfl) (by simp) ?_
          refine AllReadyH.cons rfl (fun K hK => ?_) AllReadyH.nil
          rw [if_pos (by rfl)]
          go_simp
          go_at_call 22
          refine CX.out.mono ?_
          rintro e w5 ⟨rfl, k5⟩
          have K5 := Lib.hid k5
          clear k5 CX T1
          refine hK.out _ _ ?_ (fun hHeld => ?_)
          · exact (C0.out _ K5.out.below)
          clear hK K
          try simp only [Act.put, List.getElem_toArray, List.getElem_cons_succ, List.getElem_cons_zero, List.setIfInBounds_toArray, List.set_cons_zero, List.set_cons_succ]
          refine wpAnyH_done (by kernel_rfl) ?_ _
          clear hHeld
          have T2 := Lib.hid (K5.out.on (Below.drew (Below.refl _ _)))
          have CY := Lib.hid (T2.out.text2 ba m bc X ST.out (by omega) (by omega))
          go_wp2_with fail
          refine wp_region_held_drew (S := fun x => x.cell? ⟨b, o + k2, none⟩ = some (.slice ba n2 bc)) (by kernel_rfl) (C0.out _ T2.out.below) (fun hHeld => ?_)
          refine wpAnyH_take (i := 0) (v := ?_) rfl (by kernel_rfl) (by kernel_rfl) (by kernel_rfl) (fun _ _ _ h => h) (Or.inl ⟨by rfl, ?_⟩) (by assumption) ?_
          rotate_left
          · intro w hSw
            (try dsimp only at hSw)
            go_simp
            all_goals with_reducible rfl
          try simp only [Act.put, List.getElem_toArray, List.getElem_cons_succ, List.getElem_cons_zero, List.setIfInBounds_toArray, List.set_cons_zero, List.set_cons_succ]
          refine wpAnyH_take (i := 1) (v := ?_) rfl (by kernel_rfl) (by kernel_rfl) (by kernel_rfl) (fun _ _ _ h => h) (Or.inl ⟨by rfl, ?_⟩) (by assumption) ?_
          rotate_left
          · intro w hSw
            (try dsimp only at hSw)
            go_simp
            all_goals with_reducible rfl
          try simp only [Act.put, List.getElem_toArray, List.getElem_cons_succ, List.getElem_cons_zero, List.setIfInBounds_toArray, List.set_cons_zero, List.set_cons_succ]
          refine wpAnyH_take (i := 2) (v := ?_) rfl (by kernel_rfl) (by kernel_rfl) (by kernel_rfl) (fun _ _ _ h => h) (Or.inl ⟨by rfl, ?_⟩) (by assumption) ?_
          rotate_left
          · intro w hSw
            (try dsimp only at hSw)
            go_simp
            all_goals with_reducible rfl
          try simp only [Act.put, List.getElem_toArray, List.getElem_cons_succ, List.getElem_cons_zero, List.setIfInBounds_toArray, List.set_cons_zero, List.set_cons_succ]
          refine wpAnyH_take (i := 3) (v := ?_) rfl (by kernel_rfl) (by kernel_rfl) (by kernel_rfl) (fun _ _ _ h => h) (Or.inl ⟨by rfl, ?_⟩) (by assumption) ?_
          rotate_left
          · intro w hSw
            (try dsimp only at hSw)
            go_simp
            all_goals with_reducible rfl
          try simp only [Act.put, List.getElem_toArray, List.getElem_cons_succ, List.getElem_cons_zero, List.setIfInBounds_toArray, List.set_cons_zero, List.set_cons_succ]
          refine wpAnyH_take (i := 4) (v := ?_) rfl (by kernel_rfl) (by kernel_rfl) (by kernel_rfl) (fun _ _ _ h => h) (Or.inl ⟨by rfl, ?_⟩) (by assumption) ?_
          rotate_left
          · intro w hSw
            (try dsimp only at hSw)
            go_simp
            all_goals with_reducible rfl
          try simp only [Act.put, List.getElem_toArray, List.getElem_cons_succ, List.getElem_cons_zero, List.setIfInBounds_toArray, List.set_cons_zero, List.set_cons_succ]
          refine wpAnyH_take (i := 5) (v := ?_) rfl (by kernel_rfl) (by kernel_rfl) (by kernel_rfl) (fun _ _ _ h => h) (Or.inl ⟨by rfl, ?_⟩) (by assumption) ?_
          rotate_left
          · intro w hSw
            (try dsimp only at hSw)
            go_simp
            all_goals with_reducible rfl
          try simp only [Act.put, List.getElem_toArray, List.getElem_cons_succ, List.getElem_cons_zero, List.setIfInBounds_toArray, List.set_cons_zero, List.set_cons_succ]
          refine wpAnyH_take (i := 6) (v := ?_) rfl (by kernel_rfl) (by kernel_rfl) (by kernel_rfl) (fun _ _ _ h => h) (Or.inl ⟨by rfl, ?_⟩) (by assumption) ?_
          rotate_left
          · intro w hSw
            (try dsimp only at hSw)
            go_simp
            all_goals with_reducible rfl
          try simp only [Act.put, List.getElem_toArray, List.getElem_cons_succ, List.getElem_cons_zero, List.setIfInBounds_toArray, List.set_cons_zero, List.set_cons_succ]
          refine wpAnyH_take (i := 7) (v := ?_) rfl (by kernel_rfl) (by kernel_rfl) (by kernel_rfl) (fun _ _ _ h => h) (Or.inl ⟨by rfl, ?_⟩) (by assumption) ?_
          rotate_left
          · intro w hSw
            (try dsimp only at hSw)
            go_simp
            all_goals with_reducible rfl
          try simp only [Act.put, List.getElem_toArray, List.getElem_cons_succ, List.getElem_cons_zero, List.setIfInBounds_toArray, List.set_cons_zero, List.set_cons_succ]
          refine wpAnyH_take (i := 8) (v := ?_) rfl (by kernel_rfl) (by kernel_rfl) (by kernel_rfl) (fun _ _ _ h => h) (Or.inl ⟨by rfl, ?_⟩) (by assumption) ?_
          rotate_left
          · intro w hSw
            (try dsimp only at hSw)
            go_simp
            all_goals with_reducible rfl
          try simp only [Act.put, List.getElem_toArray, List.getElem_cons_succ, List.getElem_cons_zero, List.setIfInBounds_toArray, List.set_cons_zero, List.set_cons_succ]
          refine wpAnyH_take (i := 9) (v := ?_) rfl (by kernel_rfl) (by kernel_rfl) (by kernel_rfl) (fun _ _ _ h => h) (Or.inl ⟨by rfl, ?_⟩) (by assumption) ?_
          rotate_left
          · intro w hSw
            (try dsimp only at hSw)
            go_simp
            all_goals with_reducible rfl
          try simp only [Act.put, List.getElem_toArray, List.getElem_cons_succ, List.getElem_cons_zero, List.setIfInBounds_toArray, List.set_cons_zero, List.set_cons_succ]
          refine wpAnyH_take (i := 10) (v := ?_) rfl (by kernel_rfl) (by kernel_rfl) (by kernel_rfl) (fun _ _ _ h => h) (Or.inl ⟨by rfl, ?_⟩) (by assumption) ?_
          rotate_left
          · intro w hSw
            (try dsimp only at hSw)
            go_simp
            all_goals with_reducible rfl
          try simp only [Act.put, List.getElem_toArray, List.getElem_cons_succ, List.getElem_cons_zero, List.setIfInBounds_toArray, List.set_cons_zero, List.set_cons_succ]
          refine wpAnyH_take (i := 11) (v := ?_) rfl (by kernel_rfl) (by kernel_rfl) (by kernel_rfl) (fun _ _ _ h => h) (Or.inl ⟨by rfl, ?_⟩) (by assumption) ?_
          rotate_left
          · intro w hSw
            (try dsimp only at hSw)
            go_simp
            all_goals with_reducible rfl
          try simp only [Act.put, List.getElem_toArray, List.getElem_cons_succ, List.getElem_cons_zero, List.setIfInBounds_toArray, List.set_cons_zero, List.set_cons_succ]
          refine wpAnyH_ready (rs := [12]) (by kernel_rfl) (by simp) ?_
          refine AllReadyH.cons rfl (fun K hK => ?_) AllReadyH.nil
          rw [if_pos (by rfl)]
          go_simp
          go_at_call 23
          refine CY.out.mono ?_
          rintro e w6 ⟨rfl, k6⟩
          rw [List.append_assoc, ← hnx.out] at k6
          have K6 := Lib.hid k6
          clear k6 CY T2 K5
          refine hK.out _ _ ?_ (fun hHeld => ?_)
          · exact (C0.out _ K6.out.below)
          clear hK K
          try simp only [Act.put, List.getElem_toArray, List.getElem_cons_succ, List.getElem_cons_zero, List.setIfInBounds_toArray, List.set_cons_zero, List.set_cons_succ]
          refine wpAnyH_done (by kernel_rfl) ?_ _
          clear hHeld
          go_wp2
          go_roundw
          case rel => exact ⟨k2 + 1, by omega, by go_num, K6.out⟩
          case measure => simp [intOf]; omega
        · have hkn : k2 = tn := by omega
          subst hkn
          rw [List.take_of_length_le (by omega)] at W2 hD
          generalize encN ks ++ encT ts = D at W2 hD
          obtain ⟨L, hL⟩ : ∃ L, L = D.length := ⟨_, rfl⟩
          have T1 := Lib.hid (W2.out.on (Below.drew (Below.refl _ _)))
          have CB : Hid (Calls Try.prog 24 #[.pointer (some ⟨p, 0, none⟩)] wr.drew fun e w' => ∃ a c, e = .returned (.slice a L c) ∧ Sl w' w'.heap.size a L c D ∧ WH w w' p q D D ∧ Below wr.heap.size wr w') := by
            obtain ⟨Q1, Q2, q1, _⟩ := T1.out.ex
            refine (wbytes_any q1 (by omega)).mono fun e w' ⟨a, c, x1, x2, x3, _⟩ => ⟨a, c, by rw [hL]; exact x1, by rw [hL]; exact x2, T1.out.on x3, (Below.drew (Below.refl _ _)).trans x3⟩
          have CR : Hid (∀ x, WH w x p q D D → Calls Try.prog 25 #[.pointer (some ⟨q, 0, none⟩)] x fun e w' => ∃ a c, e = .returned (.slice a L c) ∧ Sl w' w'.heap.size a L c D ∧ Below w.heap.size w w' ∧ Below x.heap.size x w') := by
            intro x hx
            obtain ⟨Q1, Q2, _, q1, _⟩ := hx.ex
            refine (rwbytes_any q1 (by omega)).mono fun e w' ⟨a, c, x1, x2, x3, _⟩ => ⟨a, c, by rw [hL]; exact x1, by rw [hL]; exact x2, hx.below.trans (x3.mono hx.below.size), x3⟩
          clear hL hD
          go_wp2_with fail
          refine wp_region_held_drew (S := fun x => Below w.heap.size w x) (by kernel_rfl) T1.out.below (fun hHeld => ?_)
          refine wpAnyH_take (i := 0) (v := ?_) rfl (by kernel_rfl) (by kernel_rfl) (by kernel_rfl) (fun _ _ _ h => h) (Or.inl ⟨by rfl, ?_⟩) (by assumption) ?_
          rotate_left
          · intro w hSw
            (try dsimp only at hSw)
            go_simp
            all_goals with_reducible rfl
          try simp only [Act.put, List.getElem_toArray, List.getElem_cons_succ, List.getElem_cons_zero, List.setIfInBounds_toArray, List.set_cons_zero, List.set_cons_succ]
          refine wpAnyH_take (i := 1) (v := ?_) rfl (by kernel_rfl) (by kernel_rfl) (by kernel_rfl) (fun _ _ _ h => h) (Or.inl ⟨by rfl, ?_⟩) (by assumption) ?_
          rotate_left
          · intro w hSw
            (try dsimp only at hSw)
            go_simp
            all_goals with_reducible rfl
          try simp only [Act.put, List.getElem_toArray, List.getElem_cons_succ, List.getElem_cons_zero, List.setIfInBounds_toArray, List.set_cons_zero, List.set_cons_succ]
          refine wpAnyH_take (i := 2) (v := ?_) rfl (by kernel_rfl) (by kernel_rfl) (by kernel_rfl) (fun _ _ _ h => h) (Or.inl ⟨by rfl, ?_⟩) (by assumption) ?_
          rotate_left
          · intro w hSw
            (try dsimp only at hSw)
            go_simp
            all_goals with_reducible rfl
          try simp only [Act.put, List.getElem_toArray, List.getElem_cons_succ, List.getElem_cons_zero, List.setIfInBounds_toArray, List.set_cons_zero, List.set_cons_succ]
          refine wpAnyH_take (i := 5) (v := ?_) rfl (by kernel_rfl) (by kernel_rfl) (by kernel_rfl) (fun _ _ _ h => h) (Or.inl ⟨by rfl, ?_⟩) (by assumption) ?_
          rotate_left
          · intro w hSw
            (try dsimp only at hSw)
            go_simp
            all_goals with_reducible rfl
          try simp only [Act.put, List.getElem_toArray, List.getElem_cons_succ, List.getElem_cons_zero, List.setIfInBounds_toArray, List.set_cons_zero, List.set_cons_succ]
          refine wpAnyH_ready (rs := [3]) (by kernel_rfl) (by simp) ?_
          refine AllReadyH.cons rfl (fun K hK => ?_) AllReadyH.nil
          rw [if_pos (by rfl)]
          go_simp
          go_at_call 24
          refine CB.out.mono ?_
          rintro e w5 ⟨a5, c5, rfl, s5, k5, _⟩
          have K5 := Lib.hid k5
          have S5 := Lib.hid s5
          clear k5 CB T1 s5
          refine hK.out _ _ ?_ (fun hHeld => ?_)
          · exact K5.out.below
          clear hK K
          try simp only [Act.put, List.getElem_toArray, List.getElem_cons_succ, List.getElem_cons_zero, List.setIfInBounds_toArray, List.set_cons_zero, List.set_cons_succ]
          refine held_to (S' := fun x => Below w.heap.size w x ∧ (convert 22 9 (.slice a5 L c5)).run Try.prog x = .ok (.string (strOf D)) x) (fun _ h => h.1) ⟨K5.out.below, run_str (P := Try.prog) S5.out 22 5 9 Try.underlying22 Try.underlying5 Try.underlying9⟩ (fun hHeld2 => ?_)
          clear hHeld
          refine wpAnyH_take (i := 4) (v := ?_) rfl (by kernel_rfl) (by kernel_rfl) (by kernel_rfl) (fun _ _ _ h => h) (Or.inl ⟨by rfl, ?_⟩) (by assumption) ?_
          rotate_left
          · intro w hSw
            (try dsimp only at hSw)
            go_simp
            all_goals with_reducible rfl
          try simp only [Act.put, List.getElem_toArray, List.getElem_cons_succ, List.getElem_cons_zero, List.setIfInBounds_toArray, List.set_cons_zero, List.set_cons_succ]
          refine wpAnyH_ready (rs := [6]) (by kernel_rfl) (by simp) ?_
          refine AllReadyH.cons rfl (fun K hK => ?_) AllReadyH.nil
          rw [if_pos (by rfl)]
          go_simp
          go_at_call 25
          refine (CR.out _ K5.out).mono ?_
          rintro e w6 ⟨a6, c6, rfl, s6, b6, b56⟩
          have r5 := run_str (P := Try.prog) ((S5.out.below b56 (Nat.le_refl _)).more b56.size) 22 5 9 Try.underlying22 Try.underlying5 Try.underlying9
          have r6 := run_str (P := Try.prog) s6 22 5 9 Try.underlying22 Try.underlying5 Try.underlying9
          have B6 := Lib.hid b6
          clear s6 b6 b56 CR
          refine hK.out _ _ ?_ (fun hHeld => ?_)
          · exact ⟨B6.out, r5⟩
          clear hK K
          try simp only [Act.put, List.getElem_toArray, List.getElem_cons_succ, List.getElem_cons_zero, List.setIfInBounds_toArray, List.set_cons_zero, List.set_cons_succ]
          refine wpAnyH_ready (rs := [7]) (by kernel_rfl) (by simp) ?_
          refine AllReadyH.cons rfl (fun K hK => ?_) AllReadyH.nil
          rw [if_pos (by rfl)]
          go_simp
          refine hK.out _ _ ?_ (fun hHeld => ?_)
          · exact ⟨B6.out, r5⟩
          clear hK K
          try simp only [Act.put, List.getElem_toArray, List.getElem_cons_succ, List.getElem_cons_zero, List.setIfInBounds_toArray, List.set_cons_zero, List.set_cons_succ]
          refine wpAnyH_take (i := 8) (v := ?_) rfl (by kernel_rfl) (by kernel_rfl) (by kernel_rfl) (fun _ _ _ h => h) (Or.inl ⟨by rfl, ?_⟩) (by assumption) ?_
          rotate_left
          · intro w hSw
            (try dsimp only at hSw)
            go_simp
            all_goals with_reducible rfl
          try simp only [Act.put, List.getElem_toArray, List.getElem_cons_succ, List.getElem_cons_zero, List.setIfInBounds_toArray, List.set_cons_zero, List.set_cons_succ]
          refine wpAnyH_take (i := 9) (v := ?_) rfl (by kernel_rfl) (by kernel_rfl) (by kernel_rfl) (fun _ _ _ h => h) (Or.inl ⟨by rfl, ?_⟩) (by assumption) ?_
          rotate_left
          · intro w hSw
            (try dsimp only at hSw)
            go_simp
            all_goals with_reducible rfl
          try simp only [Act.put, List.getElem_toArray, List.getElem_cons_succ, List.getElem_cons_zero, List.setIfInBounds_toArray, List.set_cons_zero, List.set_cons_succ]
          refine wpAnyH_take (i := 10) (v := ?_) rfl (by kernel_rfl) (by kernel_rfl) (by kernel_rfl) (fun _ _ _ h => h) (Or.inl ⟨by rfl, ?_⟩) (by assumption) ?_
          rotate_left
          · intro w hSw
            (try dsimp only at hSw)
            go_simp
            all_goals with_reducible rfl
          try simp only [Act.put, List.getElem_toArray, List.getElem_cons_succ, List.getElem_cons_zero, List.setIfInBounds_toArray, List.set_cons_zero, List.set_cons_succ]
          refine wpAnyH_done (by kernel_rfl) ?_ _
          clear hHeld hHeld2 r5 r6
          go_wp2
          go_ret
          exact ⟨rfl, B6.out⟩
end Go.Proofs.Ytkmdnmjbjbkpdaa

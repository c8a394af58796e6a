/- WireWrong: the walk. -/
import Derived.Test.YtkmdnmjbjbkpdaaWrK
namespace Go.Proofs.Ytkmdnmjbjbkpdaa
open Go.RowKit
open Wir

theorem wrong_in {n l m : Int} (h1 : -9223372036854775808 ≤ n) (h2 : n ≤ 9223372036854775807) (hl : l ≤ n) (hm : n ≤ m) (t : List Nat) :
    (⟨dg (cnt n) ++ t, 0, 0⟩ : RS).int l m = (n, ⟨dg (cnt n) ++ t, (dg (cnt n)).length, 0⟩) := by
  have := num_dg (cnt n) (cnt_lt h1 h2) t
  have hw : wi l m (dg (cnt n) ++ t) = (n, (dg (cnt n)).length, 0) := by unfold wi; rw [this, unc_cnt]; simp only; rw [if_neg (by simp), if_neg (by omega)]
  unfold RS.int RS.told
  simp [hw]
theorem wrong_out {n l m : Int} (h1 : -9223372036854775808 ≤ n) (h2 : n ≤ 9223372036854775807) (hl : n < l ∨ m < n) (t : List Nat) :
    (⟨dg (cnt n) ++ t, 0, 0⟩ : RS).int l m = (0, ⟨dg (cnt n) ++ t, 0, 12⟩) := by
  have := num_dg (cnt n) (cnt_lt h1 h2) t
  unfold RS.int RS.told wi
  rw [List.drop_zero, this, unc_cnt]
  simp [hl]
theorem wrong_num (bs : List Nat) : (⟨bs, 0, 12⟩ : RS).num = (0, ⟨bs, 0, 12⟩) := rfl
theorem wrong_text (bs : List Nat) (m : Int) : (⟨bs, 0, 12⟩ : RS).text m = ([], ⟨bs, 0, 12⟩) := rfl
theorem wrong_end (bs : List Nat) : (⟨bs, 0, 12⟩ : RS).end_ = 12 := rfl
theorem in_end (d : List Nat) : (⟨d ++ [], d.length, 0⟩ : RS).end_ = 0 := by unfold RS.end_; simp
set_option linter.unusedSimpArgs false in
set_option maxRecDepth 100000 in
set_option maxHeartbeats 3200000 in
theorem wireWrong_walk (n l m : Int) (h1 : -9223372036854775808 ≤ n) (h2 : n ≤ 9223372036854775807) (a : Option Addr) (len cap : Nat) (t : List Nat) (w : World) (hs : Sl w w.heap.size a len cap t) :
    Calls Try.prog 7 #[.int .i64 n, .int .i64 l, .int .i64 m, .slice a len cap] w fun e w' => e = .returned (.bool true) ∧ Below w.heap.size w w' := by
  have HS := Lib.hid hs
  have hl := hs.length
  clear hs
  go_enter Try.func7, Try.ntmps7
  go_wp2_with fail
  refine (head_any _).mono ?_
  rintro e w1 ⟨rfl, hb1⟩
  have B1 := Lib.hid hb1
  clear hb1
  by_cases h3 : 900 < len
  · have h3' : (900 : Int) < (len : Int) := by omega
    go_wp2
    go_ret
    exact ⟨rfl, B1.out⟩
  have h3' : (len : Int) ≤ 900 := by omega
  have hs1 := Lib.hid ((HS.out.below B1.out (Nat.le_refl _)).more B1.out.size)
  have W0 := Lib.hid (WK.new 41 w1)
  have IN := fun hl hm => Lib.hid (wrong_in (l := l) (m := m) h1 h2 hl hm t)
  have OUT := fun hl => Lib.hid (wrong_out (l := l) (m := m) h1 h2 hl t)
  go_wp2_with fail
  refine (W0.out.num n h1 h2 (by decide)).mono ?_
  rintro e w2 ⟨rfl, k2⟩
  rw [List.nil_append] at k2
  have hz2 : w1.heap.size ≤ w2.heap.size := by obtain ⟨_, _, _, b⟩ := k2; exact b.size
  have W2 := Lib.hid k2
  clear k2 W0
  have hA10 := dg_le (cnt_lt h1 h2)
  generalize hd : dg (cnt n) = d at *
  go_wp2_with fail
  refine (W2.out.bytesOwn (by omega)).mono ?_
  rintro e w3 ⟨v, rfl, ho, ⟨_, _, _, k3⟩, hb3⟩
  have hs3 := (hs1.out.below k3 (Nat.le_refl _)).more k3.size
  have W3 := Lib.hid (And.intro k3 (And.intro hb3 (And.intro (show ∀ b, v.ownBlock = some b → w2.heap.size ≤ b ∧ b < w3.heap.size from fun b hb => ho.at_base hb) hs3.byte)))
  have hz3 := hb3.size
  clear k3 hb3 W2
  go_wp2_with (at_builtin; refine wpList_append_sl rfl (.tmp 26) (.tmp 27) _ rfl w2.heap.size _ Try.underlying22 info_u8 v d rfl ho _ a len cap t rfl hs3 (by omega) (by omega) ?_; intro v1 w4 hown1 hg1 hat1; have H4 := Lib.hid (And.intro hown1 (And.intro hg1 hat1)); clear hown1 hg1 hat1 ho hs3)
  obtain ⟨o4, g4, _⟩ := H4.out
  have hdb : ∀ c ∈ d ++ t, c < 256 := fun c hc => by
    rcases List.mem_append.1 hc with hc | hc
    · rw [← hd] at hc; exact dg_byte _ c hc
    · exact W3.out.2.2.2 c hc
  obtain ⟨a4, c4, e4, s4⟩ := o4.sl hdb
  subst e4
  have hdl : (d ++ t).length ≤ 1000 := by simp; omega
  have B4 : Below w.heap.size w w4 := by
    have x1 := B1.out.trans (W3.out.1.mono B1.out.size)
    exact x1.grown g4 (by have := x1.size; exact this) (fun k hk => by have := (W3.out.2.2.1 k hk).1; have := B1.out.size; omega)
  have NR := Lib.hid (newReader_any a4 (d ++ t).length c4 (d ++ t) w4 s4 (by omega))
  have hdl2 : (d ++ t).length = d.length + len := by simp [hl]
  have B4 := Lib.hid B4
  clear s4 o4 g4 W3 H4 hdb hs1
  go_wp2_with fail
  refine NR.out.mono ?_
  rintro e w5 ⟨g, O, rfl, r5, b5, n5⟩
  have K5 := Lib.hid (And.intro r5 (And.intro (B4.out.trans (b5.mono B4.out.size)) (show ∀ k, O k → w.heap.size ≤ k from fun k hk => Nat.le_trans B4.out.size (n5 k hk))))
  clear r5 b5 n5 NR
  have CI := Lib.hid (int_any K5.out.1 l m)
  by_cases hin : l ≤ n ∧ n ≤ m
  · obtain ⟨hin1, hin2⟩ := hin
    rw [(IN hin1 hin2).out] at CI
    have IX := IN hin1 hin2
    clear IN OUT
    go_wp2_with fail
    refine CI.out.mono ?_
    rintro e w6 ⟨rfl, r6, b6⟩
    have K6 := Lib.hid (And.intro r6 (But.under K5.out.2.1 b6 K5.out.2.2))
    clear r6 b6 CI
    by_cases h0 : 0 < len
    · have h0' : (0 : Int) < (len : Int) := by omega
      go_wp2
      go_ret
      exact ⟨rfl, K6.out.2⟩
    · have hl0 : len = 0 := by omega
      subst hl0
      have ht : t = [] := List.eq_nil_of_length_eq_zero hl
      subst ht
      have CE := Lib.hid (end_any K6.out.1)
      rw [in_end] at CE
      go_wp2_with fail
      refine CE.out.mono ?_
      rintro e w7 ⟨rfl, b7⟩
      have K7 := Lib.hid (K6.out.2.trans (b7.mono K6.out.2.size))
      clear b7 CE
      go_wp2
      go_ret
      exact ⟨rfl, K7.out⟩
  · have hout : n < l ∨ m < n := by omega
    rw [(OUT hout).out] at CI
    clear IN OUT
    go_wp2_with fail
    refine CI.out.mono ?_
    rintro e w6 ⟨rfl, r6, b6⟩
    have K6 := Lib.hid (And.intro r6 (But.under K5.out.2.1 b6 K5.out.2.2))
    clear r6 b6 CI
    have C7 := Lib.hid (num_any K6.out.1)
    rw [wrong_num] at C7
    have hdec : ¬ (l ≤ n) ∨ (l ≤ n ∧ ¬ n ≤ m) := by omega
    rcases hdec with hd1 | ⟨hd1, hd2⟩
    all_goals
      go_wp2_with fail
      refine C7.out.mono ?_
      rintro e w7 ⟨rfl, r7, b7⟩
      have K7 := Lib.hid (And.intro r7 (But.under K6.out.2 b7 K5.out.2.2))
      clear r7 b7 C7
      have C8 := Lib.hid (text_any K7.out.1 900)
      rw [wrong_text] at C8
      go_wp2_with fail
      refine C8.out.mono ?_
      rintro e w8 ⟨xa, xc, rfl, _, _, r8, b8⟩
      have K8 := Lib.hid (And.intro r8 (But.under K7.out.2 b8 K5.out.2.2))
      clear r8 b8 C8
      have C9 := Lib.hid (end_any K8.out.1)
      rw [wrong_end] at C9
      go_wp2_with fail
      refine C9.out.mono ?_
      rintro e w9 ⟨rfl, b9⟩
      have K9 := Lib.hid (K8.out.2.trans (b9.mono K8.out.2.size))
      clear b9 C9
      go_wp2
      go_ret
      exact ⟨rfl, K9.out⟩
end Go.Proofs.Ytkmdnmjbjbkpdaa

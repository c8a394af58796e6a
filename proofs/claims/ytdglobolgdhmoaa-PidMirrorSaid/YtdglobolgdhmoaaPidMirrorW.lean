/- PidMirror: the walk. -/
import Derived.Test.YtdglobolgdhmoaaPdG
namespace Go.Proofs.Ytdglobolgdhmoaa
set_option linter.unusedSimpArgs false
set_option linter.unusedVariables false
open Go.RowKit
open Fx Pd
attribute [local go_sem] Oper.semAt_some

set_option maxRecDepth 100000 in
set_option maxHeartbeats 3200000 in
theorem pidMirror_walk (kp ki kd : Int) (a : Option Addr) (n c : Nat) (ks : List Int) (w : World) (hr : Row w w.heap.size a n c 1 (i32C ks)) (hn : ks.length = n) (hb : ∀ k ∈ ks, -2147483648 ≤ k ∧ k ≤ 2147483647) :
    Calls Try.prog 6 #[.int .i64 kp, .int .i64 ki, .int .i64 kd, .slice a n c] w fun r w' => r = .returned (.bool true) ∧ Below w.heap.size w w' := by
  have hle := hr.le
  have hmx := hr.max
  unfold maxLen at hmx
  have RR := Lib.hid hr
  clear hr
  have HKS := Lib.hid hb
  clear hb
  go_enter Try.func6, Try.ntmps6
  go_wp2_with fail
  refine (head_any _).mono ?_
  rintro r w1 ⟨rfl, b1⟩
  have B1 := Lib.hid b1
  clear b1
  by_cases h9 : 900 < n
  · go_wp2
    go_ret
    exact ⟨rfl, B1.out⟩
  have h9 : n ≤ 900 := by omega
  have HN := Lib.hid h9
  go_wp2_with fail
  refine (of12_any 500 kp ki kd _).mono ?_
  rintro r w2 ⟨rfl, b2⟩
  have B2 := Lib.hid (B1.out.trans (b2.mono B1.out.size))
  clear b2 B1
  unfold ofV
  go_wp2_with fail
  have N0 := NM.new w2 #[.int .i64 3, .int .i64 500, .slice none 0 0, .int .i64 kp, .int .i64 ki, .int .i64 kd, .int .i64 0, .slice none 0 0]
  go_loopw [13] (fun i wx => ∃ (k : Nat) (s p : Int) (h : Bool), k ≤ n ∧ i = .int .i64 (k : Int) ∧ NM w2 wx #[.int .i64 3, .int .i64 500, .slice none 0 0, .int .i64 kp, .int .i64 ki, .int .i64 kd, .int .i64 0, .slice none 0 0] s p h ∧ (-1000000000 ≤ s ∧ s ≤ 1000000000) ∧ -1000000000 ≤ p ∧ p ≤ 1000000000) (fun i _ => n - (intOf i).toNat)
  case atStart => exact ⟨0, 0, 0, false, Nat.zero_le _, rfl, N0, ⟨by decide, by decide⟩, by decide, by decide⟩
  case round =>
    clear N0
    obtain ⟨k, s, p, h, hk, rfl, hN, hs, hp⟩ := hrel
    have NM1 := Lib.hid hN
    have BW := Lib.hid (B2.out.trans (hN.bel.mono B2.out.size))
    have HSP := Lib.hid (And.intro hs hp)
    clear hN hs hp
    by_cases hlt : k < n
    · have hx := HKS.out (ks.getD k 0) (by rw [List.getD_eq_getElem?_getD, List.getElem?_eq_getElem (by omega)]; exact List.getElem_mem _)
      have hlt' : (k : Int) < (n : Int) := by omega
      have hk0 : (0 : Int) ≤ (k : Int) := by omega
      obtain ⟨b, o, rfl, hbl, hc⟩ := rcell RR.out BW.out hlt
      simp only [i32C] at hc
      generalize ks.getD k 0 = x at hc hx
      have HC := Lib.hid hc
      have HBL := Lib.hid hbl
      have HK := Lib.hid hlt
      clear hc hbl hlt
      obtain ⟨hx1, hx2⟩ := hx
      obtain ⟨E, hE⟩ : ∃ E, E = x.tmod 100000000 := ⟨_, rfl⟩
      have hE1 : -100000000 < E ∧ E < 100000000 := by have := Int.tmod_lt_of_pos x (b := 100000000) (by decide); have := Int.lt_tmod_of_pos x (b := 100000000) (by decide); omega
      obtain ⟨hE1, hE2⟩ := hE1
      have hw0 : IntKind.i64.wrap x = x := by rw [IntKind.wrap_i64]; omega
      have hw1 : x.tmod 100000000 = E := hE.symm
      have hw2 : IntKind.i64.wrap (500 + E) = 500 + E := by rw [IntKind.wrap_i64]; omega
      have hw3 : IntKind.i64.wrap (500 - E) = 500 - E := by rw [IntKind.wrap_i64]; omega
      have HE := Lib.hid (And.intro hE1 hE2)
      clear hE hE1 hE2 hx1 hx2
      have c0 := HC.out
      obtain ⟨y0, y1, y2, y3, y4, y5, y6, y7, y8, y9, ya, yb, yc, yd, _⟩ := NM.c NM1.out (Below.refl _ _)
      go_wp2_with fail
      clear y0 y1 y2 y3 y4 y5 y6 y7 y8 y9 ya yb yc yd c0
      refine (next_to 500 kp ki kd s p h (500 + E) E (add s E) (wnt kp ki kd E (add s E) (chg h E p)) _ (sub_plus HE.out.1 HE.out.2) rfl rfl).mono ?_
      rintro r w3 ⟨rfl, b3⟩
      unfold stV
      have NM2 := Lib.hid (NM1.out.on b3)
      have L2 := Lib.hid b3.size
      clear b3
      obtain ⟨s2, hs2⟩ : ∃ s2, s2 = add s E := ⟨_, rfl⟩
      have HS2 := Lib.hid (hs2 ▸ add_le s E)
      have e1 : add (-s) (-E) = -s2 := by rw [hs2]; exact add_neg s E
      rw [← hs2]
      obtain ⟨m, hm⟩ : ∃ m, m = wnt kp ki kd E s2 (chg h E p) := ⟨_, rfl⟩
      have HM := Lib.hid (hm ▸ wnt_le kp ki kd E s2 (chg h E p))
      have e2 : wnt kp ki kd (-E) (-s2) (chg h (-E) (-p)) = -m := by rw [hm, chg_neg]; exact wnt_neg _ _ _ _ _ _
      rw [← hm]
      have E1 := Lib.hid e1
      have E2 := Lib.hid e2
      clear hs2 hm e1 e2
      have q3 := (Below.refl w3.heap.size w3).alloc (Nat.le_refl _) (.cells #[.int .i64 s2, .int .i64 E, .bool true] 23)
      have V3 : Hid (StAt (w3.alloc (.cells #[.int .i64 s2, .int .i64 E, .bool true] 23)) w3.heap.size s2 E true) := heap_alloc_new _ _
      obtain ⟨y0, y1, y2, y3, y4, y5, y6, y7, y8, y9, ya, yb, yc, yd, _⟩ := NM.c NM2.out q3
      have NM3 := Lib.hid (NM2.out.on q3)
      have Q3 := Lib.hid q3
      clear q3
      go_wp2_with fail
      clear y0 y1 y2 y3 y4 y5 y6 y7 y8 y9 ya yb yc yd
      refine (next_to 500 kp ki kd (-s) (-p) h (500 - E) (-E) (-s2) (-m) _ (sub_minus HE.out.1 HE.out.2) E1.out E2.out).mono ?_
      rintro r w4 ⟨rfl, b4⟩
      unfold stV
      have NM4 := Lib.hid (NM3.out.on b4)
      have V4 := Lib.hid (V3.out.on b4)
      have L4 := Lib.hid (Nat.le_trans Q3.out.size b4.size)
      have L5 := Lib.hid (lt_of_heap V4.out)
      clear b4 NM2 NM3 V3 Q3
      have q4 := (Below.refl w4.heap.size w4).alloc (Nat.le_refl _) (.cells #[.int .i64 (-s2), .int .i64 (-E), .bool true] 23)
      have V5 : Hid (StAt (w4.alloc (.cells #[.int .i64 (-s2), .int .i64 (-E), .bool true] 23)) w4.heap.size (-s2) (-E) true) := heap_alloc_new _ _
      have V6 := Lib.hid (V4.out.on q4)
      have NM5 := Lib.hid (NM4.out.on q4)
      clear q4 NM4 V4
      obtain ⟨c50, c51, c52, _⟩ := StAt.c V5.out (Below.refl _ _)
      obtain ⟨c60, c61, c62, _⟩ := StAt.c V6.out (Below.refl _ _)
      obtain ⟨i1, i2⟩ := HS2.out
      obtain ⟨i3, i4⟩ := HE.out
      obtain ⟨i5, i6⟩ := HM.out
      go_upto_region 16 with (first | (refine wpList_store_mid (by rfl) 23 (.tmp 11) (.tmp 76) (by rfl) (w2.heap.size + 1) 0 #[.int .i64 s2, .int .i64 E, .bool true] (by rfl) (by rfl) (StAt.there NM5.out.one) (by kernel_rfl) (by kernel_rfl) ?_))
      clear c50 c51 c52 c60 c61 c62
      have k5 : w2.heap.size + 1 + 1 < w4.heap.size := Nat.lt_of_lt_of_le (lt_of_heap NM1.out.two) (Nat.le_trans L2.out (Nat.le_of_lt L5.out))
      have U1 := Lib.hid (StAt.set NM5.out.one s2 E true)
      have U2 := Lib.hid (NM5.out.two.set_other (q := w2.heap.size + 1) (by omega) [Value.int .i64 s2, .int .i64 E, .bool true])
      have U0 := Lib.hid (NM5.out.pol.far (q := w2.heap.size + 1) (by omega) [Value.int .i64 s2, .int .i64 E, .bool true])
      have U5 := Lib.hid (V5.out.set_other (q := w2.heap.size + 1) (by omega) [Value.int .i64 s2, .int .i64 E, .bool true])
      have UB := Lib.hid (below_setCells' (w2.heap.size + 1) (Nat.le_succ _) [Value.int .i64 s2, .int .i64 E, .bool true] 0 NM5.out.bel)
      generalize (w4.alloc (.cells #[.int .i64 (-s2), .int .i64 (-E), .bool true] 23)).setCells (w2.heap.size + 1) 0 [Value.int .i64 s2, .int .i64 E, .bool true] = w5 at *
      obtain ⟨c50, c51, c52, _⟩ := StAt.c U5.out (Below.refl _ _)
      go_wp2_with (first | (refine wpList_store_mid (by rfl) 23 (.tmp 12) (.tmp 77) (by rfl) (w2.heap.size + 1 + 1) 0 #[.int .i64 (-s2), .int .i64 (-E), .bool true] (by rfl) (by rfl) (StAt.there U2.out) (by kernel_rfl) (by kernel_rfl) ?_))
      go_roundw
      case rel => exact ⟨k + 1, s2, E, true, HK.out, by go_num, ⟨below_setCells' (w2.heap.size + 1 + 1) (by omega) _ 0 UB.out, U0.out.far (by omega) _, U1.out.set_other (by omega) _, StAt.set U2.out (-s2) (-E) true⟩, HS2.out, by have := HE.out; omega⟩
      case measure => have := HK.out; simp [intOf]; omega
    · have hlt' : ¬ (k : Int) < (n : Int) := by omega
      go_wp2
      go_ret
      exact ⟨rfl, BW.out⟩
end Go.Proofs.Ytdglobolgdhmoaa

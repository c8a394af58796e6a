/- SegmentNames: the walk. -/
import Derived.Test.YtcmgefccihehkaaDoorSgH
namespace Go.Proofs.YtcmgefccihehkaaDoor
open Go.RowKit Go.Shelf
open Crc Frm
open Sgn

/-- What the walk keeps. -/
structure KL (w w' : World) : Prop where
  below : Below w.heap.size w w'
  laid : Laid w'
theorem KL.on {w w1 w2 : World} (h : KL w w1) (hb : Below w1.heap.size w1 w2) : KL w w2 := ⟨h.below.trans (hb.mono h.below.size), h.laid.on hb⟩

set_option maxRecDepth 100000 in
set_option maxHeartbeats 3200000 in
theorem names_core (n m k : Int) (t s : ByteArray) (is it : Bool) (w : World) (hL : Laid w)
    (hr : (0 ≤ n ∧ n ≤ 1073741824 ∧ (!t.toList.isEmpty) = true ∧ is = true ∧ k = n) ∨ ((n < 0 ∨ 1073741824 < n) ∧ t = ⟨#[]⟩ ∧ is = false)) (hi : it = true ∨ (it = false ∧ m = 0))
    (NM : ∀ W, Laid W → Calls Tryd.prog 14 #[.int .i64 n] W fun e W' => e = .returned (.string t) ∧ Below W.heap.size W W')
    (F1 : ∀ W, Laid W → Calls Tryd.prog 10 #[.string t] W fun e W' => e = .returned (.tuple #[.int .i64 k, .bool is]) ∧ Below W.heap.size W W')
    (F2 : ∀ W, Laid W → Calls Tryd.prog 10 #[.string s] W fun e W' => e = .returned (.tuple #[.int .i64 m, .bool it]) ∧ Below W.heap.size W W')
    (N2 : it = true → ∀ W, Laid W → Calls Tryd.prog 14 #[.int .i64 m] W fun e W' => e = .returned (.string s) ∧ Below W.heap.size W W') :
    Calls Tryd.prog 5 #[.int .i64 n, .string s] w fun e w' => e = .returned (.bool true) ∧ Below w.heap.size w w' := by
  have KNM := Lib.hid NM
  have KF1 := Lib.hid F1
  have KF2 := Lib.hid F2
  have KN2 := Lib.hid N2
  have HR := Lib.hid hr
  have HI := Lib.hid hi
  clear NM F1 F2 N2 hr hi
  go_enter Tryd.func5, Tryd.ntmps5
  go_upto_region 2 with (go_at_call 9; (with_reducible refine (shead_any _ hL).mono ?_); rintro e w1 ⟨rfl, hb⟩; have K1 := Lib.hid (KL.mk hb (hL.on hb)); clear hb)
  clear hL
  by_cases hs : s.size ≤ 900
  · have hd : decide ((900 : Int) < (s.size : Int)) = false := by simp; omega
    go_upto_region 5 with (go_at_call 14; (with_reducible refine (KNM.out _ K1.out.laid).mono ?_); rintro e w2 ⟨rfl, hb⟩; have K2 := Lib.hid (K1.out.on hb); clear hb)
    clear hd hs K1
    go_upto_region 6 with (go_at_call 10; (with_reducible refine (KF1.out _ K2.out.laid).mono ?_); rintro e w3 ⟨rfl, hb⟩; have K3 := Lib.hid (K2.out.on hb); clear hb)
    clear K2
    go_upto_region 7 with (go_at_call 10; (with_reducible refine (KF2.out _ K3.out.laid).mono ?_); rintro e w4 ⟨rfl, hb⟩; have K4 := Lib.hid (K3.out.on hb); clear hb)
    clear K3
    rcases HR.out with ⟨h0, h1, h2, rfl, rfl⟩ | ⟨hno, rfl, rfl⟩
    · rcases HI.out with rfl | ⟨rfl, rfl⟩
      · go_wp2_with (go_at_call 14; (with_reducible refine (KN2.out rfl _ K4.out.laid).mono ?_); rintro e w5 ⟨rfl, hb⟩; have K5 := Lib.hid (K4.out.on hb); clear hb)
        go_ret
        exact ⟨ret_bool (by first | exact h2 | rfl), K5.out.below⟩
      · go_wp2_with fail
        go_ret
        exact ⟨ret_bool (by first | exact h2 | rfl), K4.out.below⟩
    · rcases hno with h0 | h1
      · rcases HI.out with rfl | ⟨rfl, rfl⟩
        · go_wp2_with (go_at_call 14; (with_reducible refine (KN2.out rfl _ K4.out.laid).mono ?_); rintro e w5 ⟨rfl, hb⟩; have K5 := Lib.hid (K4.out.on hb); clear hb)
          go_ret
          exact ⟨rfl, K5.out.below⟩
        · go_wp2_with fail
          go_ret
          exact ⟨rfl, K4.out.below⟩
      · have h0 : 0 ≤ n := by omega
        rcases HI.out with rfl | ⟨rfl, rfl⟩
        · go_wp2_with (go_at_call 14; (with_reducible refine (KN2.out rfl _ K4.out.laid).mono ?_); rintro e w5 ⟨rfl, hb⟩; have K5 := Lib.hid (K4.out.on hb); clear hb)
          go_ret
          exact ⟨rfl, K5.out.below⟩
        · go_wp2_with fail
          go_ret
          exact ⟨rfl, K4.out.below⟩
  · have hd : decide ((900 : Int) < (s.size : Int)) = true := by simp; omega
    go_wp2_with fail
    go_ret
    exact ⟨rfl, K1.out.below⟩

theorem segmentNames_walk (n : Int) (s : ByteArray) (w : World) (hL : Laid w) :
    Calls Tryd.prog 5 #[.int .i64 n, .string s] w fun e w' => e = .returned (.bool true) ∧ Below w.heap.size w w' := by
  by_cases hs : s.size ≤ 900
  · have hy : (fst s.data.toList).2 = true → nm (fst s.data.toList).1 = s.data.toList := fst_yes
    have hn : (fst s.data.toList).2 = false → (fst s.data.toList).1 = 0 := fst_no
    have F2 := fun W hW => segFirst_any s (by omega) W hW
    generalize (fst s.data.toList).1 = m at hy hn F2
    generalize (fst s.data.toList).2 = it at hy hn F2
    have N2 : it = true → ∀ W, Laid W → Calls Tryd.prog 14 #[.int .i64 m] W fun e W' => e = .returned (.string s) ∧ Below W.heap.size W W' := fun hi W hW =>
      (name_any m W hW).mono fun e W' h => ⟨by rw [h.1, ba_eq s _ (hy hi)], h.2⟩
    have hl := nm_len n
    have F1 := fun W hW => segFirst_any ⟨(nm n).toArray⟩ (by show (nm n).toArray.size ≤ _; simp; omega) W hW
    rw [show (⟨(nm n).toArray⟩ : ByteArray).data.toList = nm n from rfl] at F1
    refine names_core n m (fst (nm n)).1 ⟨(nm n).toArray⟩ s (fst (nm n)).2 it w hL ?_ ?_ (fun W hW => name_any n W hW) F1 F2 N2
    · by_cases hr : 0 ≤ n ∧ n ≤ 1073741824
      · refine .inl ⟨hr.1, hr.2, ?_, by rw [fst_nm hr.1 hr.2], by rw [fst_nm hr.1 hr.2]⟩
        rw [ByteArray.toList_eq]
        show (!(nm n).isEmpty) = true
        have := nm_ne hr.1 hr.2
        cases h : nm n with
        | nil => exact absurd h this
        | cons a l => rfl
      · refine .inr ⟨by omega, by rw [nm_no hr], by rw [nm_no hr, fst_nil]⟩
    · cases it with
      | true => exact .inl rfl
      | false => exact .inr ⟨rfl, hn rfl⟩
  · have hd : decide ((900 : Int) < (s.size : Int)) = true := by simp; omega
    clear hs
    go_enter Tryd.func5, Tryd.ntmps5
    go_wp2_with (go_at_call 9; (with_reducible refine (shead_any _ hL).mono ?_); rintro e w1 ⟨rfl, hb⟩)
    go_ret
    exact ⟨rfl, hb⟩
end Go.Proofs.YtcmgefccihehkaaDoor

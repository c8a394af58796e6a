/- StepAlone: the walk. -/
import Derived.Test.YtdlgjnkfinbdoaaStC
import Derived.Test.YtdlgjnkfinbdoaaOwP
namespace Go.Proofs.Ytdlgjnkfinbdoaa
set_option linter.unusedSimpArgs false
set_option linter.unusedVariables false
open Go.RowKit
open Wir Evn Stp
attribute [local go_sem] Oper.semAt_some

def flat (l : List (Int × Int)) : List (Int × Int) := l.map fun q => (q.1, 0)
theorem flat_ab (l : List (Int × Int)) (i : Nat) : ab (flat l) i = ab l i := by
  unfold ab flat
  rw [List.getD_eq_getElem?_getD, List.getD_eq_getElem?_getD, List.getElem?_map]
  cases l[i]? <;> rfl
theorem flat_de (l : List (Int × Int)) (i : Nat) : de (flat l) i = 0 := by
  unfold de flat
  rw [List.getD_eq_getElem?_getD, List.getElem?_map]
  cases l[i]? <;> rfl
theorem flat_fndTo (l : List (Int × Int)) (u : Int) : ∀ n, fndTo (flat l) u n = fndTo l u n
  | 0 => rfl
  | n + 1 => by unfold fndTo; rw [flat_ab, flat_fndTo l u n]
theorem flat_len (l : List (Int × Int)) : (flat l).length = l.length := by simp [flat]
theorem flat_fnd (l : List (Int × Int)) (u : Int) : fnd (flat l) u = fnd l u := by unfold fnd; rw [flat_len, flat_fndTo]
theorem flat_up {l : List (Int × Int)} (h : Up l) : Up (flat l) := fun i j h1 h2 => by rw [flat_ab, flat_ab]; exact h i j h1 (by rw [flat_len] at h2; exact h2)
theorem flat_del (l : List (Int × Int)) : Del (flat l) := fun i _ => by rw [flat_de]; omega
theorem flat_wnt (l : List (Int × Int)) (c u : Int) (h1 : 0 ≤ c) (h2 : c ≤ 1000) : wnt (flat l) c u = c := by
  unfold wnt
  rw [flat_de, bnd_id h1 h2, Int.add_zero, bnd_id h1 h2]
  simp
theorem flat_take (l : List (Int × Int)) (k : Nat) (h : k < l.length) : flat (l.take (k + 1)) = flat (l.take k) ++ [(ab l k, 0)] := by
  unfold flat ab
  rw [List.take_succ_eq_append_getElem h, List.map_append, List.getD_eq_getElem?_getD, List.getElem?_eq_getElem h]
  rfl
theorem info_bands : (Try.prog.info? 29).map (fun i => (i.zero, i.size, i.bytes)) = some (some (.agg #[.int .i64 0, .int .i64 0]), 2, 16) := by kernel_rfl
theorem OwnP.nil0 (w : World) (base : Nat) (e : TypeId) : OwnP w base e (.slice none 0 0) [] := ⟨by simp [pcells, pairs], .inl ⟨rfl, rfl⟩⟩
theorem PRow.one_ {w : World} {g : Nat} {T : TypeId} {x : Int × Int} (h : w.heap[g]? = some (.cells #[.int .i64 x.1, .int .i64 x.2] T (0, 0))) : PRow w (some ⟨g, 0, none⟩) 1 1 [x] :=
  ⟨Row.new h (by
    intro j hj
    have : j = 0 ∨ j = 1 := by omega
    rcases this with rfl | rfl <;> rfl) (by simp [maxLen]), rfl⟩
theorem wnt_nil (c u : Int) (h1 : 0 ≤ c) (h2 : c ≤ 1000) : wnt [] c u = c := by
  unfold wnt
  rw [if_neg (by simp [fnd, fndTo]), bnd_id h1 h2]
theorem grownBy_belowO {B : Nat} {a w w' : World} {r : Option Nat} (h : Below B a w) (hg : w.grownBy w' r) (hB : B ≤ w.heap.size) (hr : ∀ k, r = some k → B ≤ k) : Below B a w' := by
  cases r with
  | some g => exact grownBy_below h hg hB (hr g rfl)
  | none => exact grownBy_below (g := w.heap.size) h ⟨hg.os, hg.tape, hg.output, hg.size, fun k hk _ => hg.block k hk (by simp)⟩ hB hB
set_option maxRecDepth 100000 in
set_option maxHeartbeats 3200000 in
theorem stepAlone_walk {w : World} {a : Option Addr} {n c : Nat} {l : List (Int × Int)} (h : PRow w a n c l) (q u : Int) (hq : 0 ≤ q ∧ q ≤ 65535) :
    Calls Try.prog 8 #[.slice a n c, .int .u16 q, .int .i64 u] w fun e w' => e = .returned (.bool true) ∧ Below w.heap.size w w' := by
  have hmx := h.1.max
  have hle := h.1.le
  unfold maxLen at hmx
  have HR := Lib.hid h
  clear h
  go_enter Try.func8, Try.ntmps8
  go_wp2_with fail
  refine (head_any _).mono ?_
  rintro e w1 ⟨rfl, b1⟩
  have B1 := Lib.hid b1
  clear b1
  go_wp2_with fail
  refine (right_n (HR.out.on B1.out)).mono ?_
  rintro e w2 ⟨rfl, b2⟩
  have B2 := Lib.hid (bel2 B1.out b2)
  clear b2 B1
  cases hr : rightS l
  · clear hr
    go_wp2
    go_ret
    exact ⟨rfl, B2.out⟩
  have HS := Lib.hid (rightS_ hr)
  have HL := Lib.hid HR.out.2
  have HN6 : Hid (n ≤ 1000000) := by show _ ≤ _; have := HS.out.2.1; have := HL.out; omega
  clear hr
  obtain ⟨C, hC⟩ : ∃ C, C = q % 1001 := ⟨_, rfl⟩
  have hC0 : 0 ≤ C := by omega
  have hC1 : C ≤ 1000 := by omega
  have hc1 := hC.symm
  clear hC
  have hn8 : n ≤ 8 := by have := HS.out.2.1; have := HL.out; omega
  have HV := Lib.hid hn8
  have B3 := Lib.hid B2.out
  clear B2
  go_wp2_with fail
  go_loopw [8, 9] (fun z i wx => ∃ k : Nat, k ≤ n ∧ i = .int .i64 (k : Int) ∧ OwnP wx w.heap.size 29 z (flat (l.take k)) ∧ Below w.heap.size w wx) (fun _ i _ => n - (intOf i).toNat)
  case atStart => exact ⟨0, Nat.zero_le _, rfl, OwnP.nil0 _ _ _, B3.out⟩
  case round =>
    obtain ⟨k, hk, rfl, ho, hx⟩ := hrel
    by_cases hlt : k < n
    · have hlt' : (k : Int) < (n : Int) := by omega
      have hk0 : (0 : Int) ≤ (k : Int) := by omega
      have HK := Lib.hid hlt
      obtain ⟨b, o, rfl, hbl, hc⟩ := HR.out.cell (by omega)
      have c0 := (hx.cell (p := ⟨b, o + k * 2, none⟩) hbl).trans (hc k hlt).1
      have e0 : (l.getD k (0, 0)).1 = ab l k := rfl
      rw [e0] at c0
      have HT := Lib.hid (flat_take l k (by have := HL.out; omega))
      have HZ : Hid ((flat (l.take k)).length ≤ 8) := by show _ ≤ _; rw [flat_len, List.length_take]; omega
      generalize ab l k = x at *
      have HX := Lib.hid hx
      have HO := Lib.hid ho
      clear hx ho hc e0 hlt hk hn8
      go_wp2_with (first | (at_builtin; refine wpList_append_pairs rfl (.tmp 22) (.tmp 29) 22 rfl w.heap.size 29 Try.underlying22 info_bands _ (flat (l.take k)) (by rfl) (World.ownsRow.alloc HO.out _) (some ⟨_, 0, none⟩) 1 1 [(x, 0)] (by rfl) (PRow.one_ (x := (x, 0)) (heap_alloc_new _ _)) (by have := HZ.out; omega) (by have := HX.out.size; simp; omega) ?_; (intro v5 w5 ho5 hg5 hw5); (have hb5 : Below w.heap.size w w5 := grownBy_belowO (bel1 HX.out _) hg5 (by have := HX.out.size; simp; omega) (fun k hk => (World.ownsRow.lt HO.out k hk).1)); (have H5 := Lib.hid (And.intro ho5 hb5)); (clear ho5 hb5 hg5 hw5)))
      go_roundw
      case rel => exact ⟨k + 1, HK.out, by go_num, by rw [HT.out]; exact H5.out.1, H5.out.2⟩
      case measure => have := HK.out; simp [intOf]; omega
    · have hlt' : ¬ (k : Int) < (n : Int) := by omega
      have ek : l.take k = l := List.take_of_length_le (by have := HL.out; omega)
      rw [ek] at ho
      obtain ⟨ax, cx, rfl, hp⟩ := ho.prow
      have hfl : (flat l).length = n := by rw [flat_len]; exact HL.out
      rw [hfl] at hp ⊢
      have HP := Lib.hid hp
      have B4 := Lib.hid hx
      have K4 := Lib.hid (Below.refl wr.heap.size wr)
      clear ho hp hx ek hfl
      go_wp2_with fail
      refine (find_to (HP.out.on K4.out) (flat_up HS.out.2.2.1) HN6.out u _ (flat_fnd l u)).mono ?_
      rintro e w5 ⟨rfl, b5⟩
      have B5 := Lib.hid (bel2 B4.out b5)
      have K5 := Lib.hid (bel2 K4.out b5)
      clear B4 K4 b5
      go_wp2_with fail
      refine (find_any (HR.out.on B5.out) HS.out.2.2.1 HN6.out u).mono ?_
      rintro e w6 ⟨rfl, b6⟩
      have B6 := Lib.hid (bel2 B5.out b6)
      have K6 := Lib.hid (bel2 K5.out b6)
      clear B5 K5 b6
      generalize fnd l u = f at *
      go_wp2_with fail
      refine (want_to (HP.out.on K6.out) (flat_up HS.out.2.2.1) HN6.out (flat_del l) C u _ (flat_wnt l C u hC0 hC1)).mono ?_
      rintro e w7 ⟨rfl, b7⟩
      have B7 := Lib.hid (bel2 B6.out b7)
      have K7 := Lib.hid (bel2 K6.out b7)
      clear B6 K6 b7
      go_wp2_with fail
      refine (want_to (PRow.nil_ (w := w7)) up_nil (by decide) del_nil C u _ (wnt_nil C u hC0 hC1)).mono ?_
      rintro e w8 ⟨rfl, b8⟩
      have B8 := Lib.hid (bel2 B7.out b8)
      have K8 := Lib.hid (bel2 K7.out b8)
      clear B7 K7 b8
      go_wp2
      go_ret
      exact ⟨rfl, B8.out⟩
end Go.Proofs.Ytdlgjnkfinbdoaa

/- SchedSame: the walk. -/
import Derived.Test.YtipblgongblklaaSdC
import Derived.Test.YtipblgongblklaaOwP
import Derived.Test.YtipblgongblklaaTake
import Derived.Test.YtipblgongblklaaHeld
import Derived.Deep.CutRange
namespace Go.Proofs.Ytipblgongblklaa
set_option linter.unusedSimpArgs false
open Go.RowKit
open Wir Evn Stp Sdl
attribute [local go_sem] Oper.semAt_some
set_option linter.unusedVariables false

/-- A slot for each time: the first k of them. -/
def rws (f : Nat → Int) (k : Nat) : List (Int × Int) := (List.range k).map fun (j : Nat) => ((j : Int), f j)
theorem rws_succ (f : Nat → Int) (k : Nat) : rws f (k + 1) = rws f k ++ [((k : Int), f k)] := by simp [rws, List.range_succ]
theorem rws_len (f : Nat → Int) (k : Nat) : (rws f k).length = k := by simp [rws]
theorem rws_ab (f : Nat → Int) {k j : Nat} (h : j < k) : ab (rws f k) j = (j : Int) := by
  unfold ab rws
  rw [List.getD_eq_getElem?_getD, List.getElem?_map, List.getElem?_range h]
  rfl
theorem rws_de (f : Nat → Int) {k j : Nat} (h : j < k) : de (rws f k) j = f j := by
  unfold de rws
  rw [List.getD_eq_getElem?_getD, List.getElem?_map, List.getElem?_range h]
  rfl
theorem rws_up (f : Nat → Int) (k : Nat) : Up (rws f k) := fun i j h1 h2 => by
  rw [rws_len] at h2
  rw [rws_ab f h2, rws_ab f (by omega)]
  omega
theorem rws_swn (f : Nat → Int) {k j : Nat} (h : j < k) : swn (rws f k) (j : Int) = f j := by
  rw [swn_in (rws_up f k) (k := j) (by rw [rws_len]; exact h) (by rw [rws_ab f h]; exact Int.le_refl _) (fun h2 => by rw [rws_len] at h2; rw [rws_ab f h2]; omega), rws_de f h]
theorem info_slots : (Try.prog.info? 31).map (fun i => (i.zero, i.size, i.bytes)) = some (some (.agg #[.int .i64 0, .int .i64 0]), 2, 16) := by kernel_rfl
theorem OwnP.nil0 (w : World) (base : Nat) (e : TypeId) : OwnP w base e (.slice none 0 0) [] := ⟨by simp [pcells, pairs], .inl ⟨rfl, rfl⟩⟩
theorem PRow.one_ {w : World} {g : Nat} {T : TypeId} {x : Int × Int} (h : w.heap[g]? = some (.cells #[.int .i64 x.1, .int .i64 x.2] T (0, 0))) : PRow w (some ⟨g, 0, none⟩) 1 1 [x] :=
  ⟨Row.new h (by
    intro j hj
    have : j = 0 ∨ j = 1 := by omega
    rcases this with rfl | rfl <;> rfl) (by simp [maxLen]), rfl⟩
theorem grownBy_belowO {B : Nat} {a w w' : World} {r : Option Nat} (h : Below B a w) (hg : w.grownBy w' r) (hB : B ≤ w.heap.size) (hr : ∀ k, r = some k → B ≤ k) : Below B a w' := by
  cases r with
  | some g => exact grownBy_below h hg hB (hr g rfl)
  | none => exact grownBy_below (g := w.heap.size) h ⟨hg.os, hg.tape, hg.output, hg.size, fun k hk _ => hg.block k hk (by simp)⟩ hB hB
theorem end_or {k n2 : Nat} (h : ¬ (k < n2 ∧ k < 8)) : (¬ (k : Int) < (n2 : Int) ∧ decide ((k : Int) < (n2 : Int)) = false) ∨ ((k : Int) < (n2 : Int) ∧ ¬ (k : Int) < 8 ∧ decide ((k : Int) < 8) = false) := by
  by_cases h1 : (k : Int) < (n2 : Int)
  · exact .inr ⟨h1, fun h2 => h ⟨by omega, by omega⟩, decide_eq_false (fun h2 => h ⟨by omega, by omega⟩)⟩
  · exact .inl ⟨h1, decide_eq_false h1⟩
set_option maxRecDepth 100000 in
set_option maxHeartbeats 3200000 in
theorem schedSame_walk {w : World} {a : Option Addr} {n c : Nat} {l : List (Int × Int)} (h : PRow w a n c l) (p : Int) (t : Int) {a2 : Option Addr} {n2 c2 : Nat} {ns : List Nat} (h2 : Sl w w.heap.size a2 n2 c2 ns) :
    Calls Try.prog 7 #[.int .i64 p, .slice a n c, .int .i64 t, .slice a2 n2 c2] w fun e w' => e = .returned (.bool true) ∧ Below w.heap.size w w' := by
  have hmx := h.1.max
  have hle := h.1.le
  unfold maxLen at hmx
  have HR := Lib.hid h
  clear h
  have hn2m := h2.max
  have hn2l := h2.le
  unfold maxLen at hn2m
  have HN := Lib.hid h2
  clear h2
  go_enter Try.func7, Try.ntmps7
  go_wp2_with fail
  refine (head_any _).mono ?_
  rintro e w1 ⟨rfl, b1⟩
  have B1 := Lib.hid b1
  clear b1
  go_wp2_with fail
  refine (right_n (HR.out.on B1.out) p).mono ?_
  rintro e w2 ⟨rfl, b2⟩
  have B2 := Lib.hid (bel2 B1.out b2)
  clear b2 B1
  cases hr : rightD p l
  · clear hr
    go_wp2
    go_ret
    exact ⟨rfl, B2.out⟩
  have HS := Lib.hid (rightD_ hr)
  have HL := Lib.hid HR.out.2
  have HN5 : Hid (n ≤ 100000) := by show _ ≤ _; have := HS.out.few; have := HL.out; omega
  have P1 := HS.out.p1
  have P2 := HS.out.p2
  clear hr
  have HI := Lib.hid (tod_in P1 t)
  have HM := Lib.hid (swn_some (u := tod p t) HS.out.pos (by have := HS.out.at0; have := HI.out; omega))
  obtain ⟨f, hf⟩ : ∃ f : Nat → Int, ∀ j, f j = ((ns.getD j 0 : Nat) : Int) := ⟨_, fun _ => rfl⟩
  have HF := Lib.hid hf
  clear hf
  go_wp2_with fail
  refine (want_any (HR.out.on B2.out) HN5.out HS.out.p1 HS.out.p2 t).mono ?_
  rintro e w3 ⟨rfl, b3⟩
  have B3 := Lib.hid (bel2 B2.out b3)
  clear B2 b3
  obtain ⟨m, hm⟩ : ∃ m, swn l (tod p t) = m := ⟨_, rfl⟩
  rw [hm] at HM ⊢
  clear hm HI
  have HM : Hid (∃ j, j < l.length ∧ de l j = m) := by obtain ⟨j, h1, h2⟩ := HM.out; exact ⟨j, h1, h2.symm⟩
  go_wp2_with fail
  go_loopw [11, 12] (fun z i wx => ∃ (k : Nat) (q : Bool), k ≤ n ∧ i = .int .i64 (k : Int) ∧ z = .bool q ∧ (q = true ↔ ∃ j, j < k ∧ de l j = m) ∧ wx = w3) (fun _ i _ => n - (intOf i).toNat)
  case atStart => exact ⟨0, false, Nat.zero_le _, rfl, rfl, ⟨fun h => (by cases h), fun ⟨j, h, _⟩ => absurd h (by omega)⟩, rfl⟩
  case round =>
    obtain ⟨k, q, hk, rfl, rfl, hq, hwx⟩ := hrel
    obtain rfl := hwx.symm
    have HQ := Lib.hid hq
    clear hq
    by_cases hlt : k < n
    · have hlt' : (k : Int) < (n : Int) := by omega
      have hk0 : (0 : Int) ≤ (k : Int) := by omega
      have HK := Lib.hid hlt
      cases q
      · obtain ⟨b, o, rfl, hbl, hc⟩ := (HR.out.on B3.out).cell (by omega)
        have c1 := (hc k hlt).2
        have e1 : (l.getD k (0, 0)).2 = de l k := rfl
        rw [e1] at c1
        have HY : Hid (∀ j, j < k → ¬ de l j = m) := fun j h1 h2 => by have := HQ.out.2 ⟨j, h1, h2⟩; cases this
        clear HQ hc hbl e1
        by_cases hy : de l k = m
        · have HZ := Lib.hid hy
          generalize hyk : de l k = y at *
          have HYK := Lib.hid hyk
          clear hyk
          have d0 : (y == m) = true := by simpa using hy
          clear hy
          go_wp2
          go_roundw
          case rel => exact ⟨k + 1, true, HK.out, by go_num, rfl, ⟨fun _ => ⟨k, by omega, HYK.out.trans HZ.out⟩, fun _ => rfl⟩, by trivial⟩
          case measure => have := HK.out; simp [intOf]; omega
        · have HZ := Lib.hid hy
          generalize hyk : de l k = y at *
          have HYK := Lib.hid hyk
          clear hyk
          have d0 : (y == m) = false := by simpa using hy
          clear hy
          go_wp2
          go_roundw
          case rel => exact ⟨k + 1, false, HK.out, by go_num, rfl, ⟨fun h => (by cases h), fun ⟨j, h1, h2⟩ => by
            rcases Nat.lt_or_ge j k with h3 | h3
            · exact absurd h2 (HY.out j h3)
            · have : j = k := by omega
              subst this; exact absurd (HYK.out.symm.trans h2) HZ.out⟩, by trivial⟩
          case measure => have := HK.out; simp [intOf]; omega
      · go_wp2
        go_roundw
        case rel => exact ⟨k + 1, true, HK.out, by go_num, rfl, ⟨fun _ => by obtain ⟨j, h1, h2⟩ := HQ.out.1 rfl; exact ⟨j, by omega, h2⟩, fun _ => rfl⟩, by trivial⟩
        case measure => have := HK.out; simp [intOf]; omega
    · have hlt' : ¬ (k : Int) < (n : Int) := by omega
      have hqt : q = true := HQ.out.2 (by obtain ⟨j, h1, h2⟩ := HM.out; exact ⟨j, by have := HL.out; omega, h2⟩)
      subst hqt
      clear HQ HM hlt hk
      go_wp2_with fail
      go_loopw [13, 14] (fun z i wx => ∃ k : Nat, k ≤ n2 ∧ k ≤ 8 ∧ i = .int .i64 (k : Int) ∧ OwnP wx w.heap.size 31 z (rws f k) ∧ Below w.heap.size w wx) (fun _ i _ => n2 - (intOf i).toNat)
      case atStart => exact ⟨0, Nat.zero_le _, by omega, rfl, OwnP.nil0 _ _ _, B3.out⟩
      case round =>
        obtain ⟨k, hk, hk8, rfl, ho, hx⟩ := hrel
        by_cases hlt : k < n2 ∧ k < 8
        · have hlt' : (k : Int) < (n2 : Int) := by omega
          have hlt8 : (k : Int) < 8 := by omega
          have hk0 : (0 : Int) ≤ (k : Int) := by omega
          have HK := Lib.hid hlt
          obtain ⟨b2, o2, rfl, hbl, hc⟩ := HN.out.at_ (by omega)
          have c0 := (hx.cell (p := ⟨b2, o2 + k, none⟩) hbl).trans (hc k hlt.1)
          have e0 : ((ns.getD k 0 : Nat) : Int) = f k := (HF.out k).symm
          rw [e0] at c0
          have HT := Lib.hid (rws_succ f k)
          have HB : Hid (0 ≤ f k ∧ f k ≤ 255) := by show _ ∧ _; rw [← e0]; have := HN.out.lt hlt.1; omega
          have HZ : Hid ((rws f k).length ≤ 8) := by show _ ≤ _; rw [rws_len]; omega
          generalize f k = x at *
          obtain ⟨x0, x1⟩ := HB.out
          have wx0 : IntKind.i64.wrap x = x := by rw [IntKind.wrap_i64]; omega
          have HX := Lib.hid hx
          have HO := Lib.hid ho
          clear hx ho hc e0 hlt hk hk8
          go_wp2_with (first | (at_builtin; refine wpList_append_pairs rfl (.tmp 53) (.tmp 61) 22 rfl w.heap.size 31 Try.underlying22 info_slots _ (rws f k) (by rfl) (World.ownsRow.alloc HO.out _) (some ⟨_, 0, none⟩) 1 1 [((k : Int), x)] (by rfl) (PRow.one_ (x := ((k : Int), x)) (heap_alloc_new _ _)) (by have := HZ.out; omega) (by have := HX.out.size; simp; omega) ?_; (intro v5 w5 ho5 hg5 hw5); (have hb5 : Below w.heap.size w w5 := grownBy_belowO (bel1 HX.out _) hg5 (by have := HX.out.size; simp; omega) (fun k hk => (World.ownsRow.lt HO.out k hk).1)); (have H5 := Lib.hid (And.intro ho5 hb5)); (clear ho5 hb5 hg5 hw5)))
          go_roundw
          case rel => exact ⟨k + 1, HK.out.1, HK.out.2, by go_num, by rw [HT.out]; exact H5.out.1, H5.out.2⟩
          case measure => have := HK.out; simp [intOf]; omega
        · obtain ⟨ax, cx, rfl, hp⟩ := ho.prow
          rw [rws_len] at hp ⊢
          have HP := Lib.hid hp
          have B4 := Lib.hid hx
          have hend := end_or hlt
          have HE := Lib.hid hk8
          have HKN := Lib.hid hk
          clear ho hp hx hk hk8 hlt
          rcases hend with hend | hend
          · obtain ⟨hend, hend2⟩ := hend
            by_cases hk00 : k = 0
            · have dk : ((k : Int) == 0) = true := by simp; omega
              go_wp2
              go_ret
              exact ⟨rfl, B4.out⟩
            · have dk : ((k : Int) == 0) = false := by simp; omega
              have K1 : Hid (1 ≤ (k : Int) ∧ (k : Int) ≤ 8) := by show _ ∧ _; have := HE.out; omega
              go_wp2_with fail
              refine (at_any K1.out.1 (by have := K1.out; omega) t _).mono ?_
              rintro e w9 ⟨rfl, h9⟩
              obtain rfl := h9.symm
              have hin := tod_in K1.out.1 t
              obtain ⟨j, hj⟩ : ∃ j : Nat, tod (k : Int) t = (j : Int) := ⟨(tod (k : Int) t).toNat, by omega⟩
              have HJ := Lib.hid hj
              rw [hj] at hin ⊢
              have hjk : j < k := by omega
              have j1 : (j : Int) < (k : Int) := by omega
              have j0 : (0 : Int) ≤ (j : Int) := by omega
              have hjn : j < n2 := by have := HKN.out; omega
              have j2 : (j : Int) < (n2 : Int) := by omega
              have WV := Lib.hid (show swn (rws f k) (tod (k : Int) t) = f j by rw [hj]; exact rws_swn f hjk)
              obtain ⟨b2, o2, rfl, hbl, hc⟩ := HN.out.at_ (by omega)
              have C0 := Lib.hid (hc j hjn)
              have e0 : ((ns.getD j 0 : Nat) : Int) = f j := (HF.out j).symm
              rw [e0] at C0
              have HB : Hid (0 ≤ f j ∧ f j ≤ 255) := by show _ ∧ _; rw [← e0]; have := HN.out.lt hjn; omega
              have HKk : Hid (k ≤ 100000) := by show _ ≤ _; have := K1.out; omega
              generalize f j = x at *
              obtain ⟨x0, x1⟩ := HB.out
              have wx0 : IntKind.i64.wrap x = x := by rw [IntKind.wrap_i64]; omega
              clear hc e0 hin hj hjk hjn hk00
              have c0 := (B4.out.cell (p := ⟨b2, o2 + j, none⟩) hbl).trans C0.out
              have HPd := Lib.hid (HP.out.on (Below.drew (Below.refl _ _)))
              have B5 := Below.drew B4.out
              go_upto_region 1 with fail
              refine wp_region_held_drew (S := fun wy => wy.cell? ⟨b2, o2 + j, none⟩ = some (.int .u8 x)) (by kernel_rfl) c0 (fun hHeld => ?_)
              refine wpAnyH_take (i := 0) (v := ?_) rfl (by kernel_rfl) (by kernel_rfl) (by kernel_rfl) (fun _ _ _ h => h) (Or.inl ⟨by rfl, ?_⟩) (by assumption) ?_
              rotate_left
              · intro w hSw
                (try dsimp only at hSw)
                go_simp
                all_goals with_reducible rfl
              try simp only [Act.put, List.getElem_toArray, List.getElem_cons_succ, List.getElem_cons_zero, List.setIfInBounds_toArray, List.set_cons_zero, List.set_cons_succ]
              refine wpAnyH_take (i := 1) (v := ?_) rfl (by kernel_rfl) (by kernel_rfl) (by kernel_rfl) (fun _ _ _ h => h) (Or.inl ⟨by rfl, ?_⟩) (by assumption) ?_
              rotate_left
              · intro w hSw
                (try dsimp only at hSw)
                go_simp
                all_goals with_reducible rfl
              try simp only [Act.put, List.getElem_toArray, List.getElem_cons_succ, List.getElem_cons_zero, List.setIfInBounds_toArray, List.set_cons_zero, List.set_cons_succ]
              refine wpAnyH_take (i := 2) (v := ?_) rfl (by kernel_rfl) (by kernel_rfl) (by kernel_rfl) (fun _ _ _ h => h) (Or.inl ⟨by rfl, ?_⟩) (by assumption) ?_
              rotate_left
              · intro w hSw
                (try dsimp only at hSw)
                go_simp
                all_goals with_reducible rfl
              try simp only [Act.put, List.getElem_toArray, List.getElem_cons_succ, List.getElem_cons_zero, List.setIfInBounds_toArray, List.set_cons_zero, List.set_cons_succ]
              refine wpAnyH_take (i := 3) (v := ?_) rfl (by kernel_rfl) (by kernel_rfl) (by kernel_rfl) (fun _ _ _ h => h) (Or.inl ⟨by rfl, ?_⟩) (by assumption) ?_
              rotate_left
              · intro w hSw
                (try dsimp only at hSw)
                go_simp
                all_goals with_reducible rfl
              try simp only [Act.put, List.getElem_toArray, List.getElem_cons_succ, List.getElem_cons_zero, List.setIfInBounds_toArray, List.set_cons_zero, List.set_cons_succ]
              refine wpAnyH_take (i := 4) (v := ?_) rfl (by kernel_rfl) (by kernel_rfl) (by kernel_rfl) (fun _ _ _ h => h) (Or.inl ⟨by rfl, ?_⟩) (by assumption) ?_
              rotate_left
              · intro w hSw
                (try dsimp only at hSw)
                go_simp
                all_goals with_reducible rfl
              try simp only [Act.put, List.getElem_toArray, List.getElem_cons_succ, List.getElem_cons_zero, List.setIfInBounds_toArray, List.set_cons_zero, List.set_cons_succ]
              refine wpAnyH_take (i := 5) (v := ?_) rfl (by kernel_rfl) (by kernel_rfl) (by kernel_rfl) (fun _ _ _ h => h) (Or.inl ⟨by rfl, ?_⟩) (by assumption) ?_
              rotate_left
              · intro w hSw
                (try dsimp only at hSw)
                go_simp
                all_goals with_reducible rfl
              try simp only [Act.put, List.getElem_toArray, List.getElem_cons_succ, List.getElem_cons_zero, List.setIfInBounds_toArray, List.set_cons_zero, List.set_cons_succ]
              refine wpAnyH_take (i := 6) (v := ?_) rfl (by kernel_rfl) (by kernel_rfl) (by kernel_rfl) (fun _ _ _ h => h) (Or.inl ⟨by rfl, ?_⟩) (by assumption) ?_
              rotate_left
              · intro w hSw
                (try dsimp only at hSw)
                go_simp
                all_goals with_reducible rfl
              try simp only [Act.put, List.getElem_toArray, List.getElem_cons_succ, List.getElem_cons_zero, List.setIfInBounds_toArray, List.set_cons_zero, List.set_cons_succ]
              refine wpAnyH_take (i := 7) (v := ?_) rfl (by kernel_rfl) (by kernel_rfl) (by kernel_rfl) (fun _ _ _ h => h) (Or.inl ⟨by rfl, ?_⟩) (by assumption) ?_
              rotate_left
              · intro w hSw
                (try dsimp only at hSw)
                go_simp
                all_goals with_reducible rfl
              try simp only [Act.put, List.getElem_toArray, List.getElem_cons_succ, List.getElem_cons_zero, List.setIfInBounds_toArray, List.set_cons_zero, List.set_cons_succ]
              refine wpAnyH_take (i := 8) (v := ?_) rfl (by kernel_rfl) (by kernel_rfl) (by kernel_rfl) (fun _ _ _ h => h) (Or.inl ⟨by rfl, ?_⟩) (by assumption) ?_
              rotate_left
              · intro w hSw
                (try dsimp only at hSw)
                go_simp
                all_goals with_reducible rfl
              try simp only [Act.put, List.getElem_toArray, List.getElem_cons_succ, List.getElem_cons_zero, List.setIfInBounds_toArray, List.set_cons_zero, List.set_cons_succ]
              refine wpAnyH_take (i := 9) (v := ?_) rfl (by kernel_rfl) (by kernel_rfl) (by kernel_rfl) (fun _ _ _ h => h) (Or.inl ⟨by rfl, ?_⟩) (by assumption) ?_
              rotate_left
              · intro w hSw
                (try dsimp only at hSw)
                go_simp
                all_goals with_reducible rfl
              try simp only [Act.put, List.getElem_toArray, List.getElem_cons_succ, List.getElem_cons_zero, List.setIfInBounds_toArray, List.set_cons_zero, List.set_cons_succ]
              refine wpAnyH_take (i := 10) (v := ?_) rfl (by kernel_rfl) (by kernel_rfl) (by kernel_rfl) (fun _ _ _ h => h) (Or.inl ⟨by rfl, ?_⟩) (by assumption) ?_
              rotate_left
              · intro w hSw
                (try dsimp only at hSw)
                go_simp
                all_goals with_reducible rfl
              try simp only [Act.put, List.getElem_toArray, List.getElem_cons_succ, List.getElem_cons_zero, List.setIfInBounds_toArray, List.set_cons_zero, List.set_cons_succ]
              refine wpAnyH_take (i := 11) (v := ?_) rfl (by kernel_rfl) (by kernel_rfl) (by kernel_rfl) (fun _ _ _ h => h) (Or.inl ⟨by rfl, ?_⟩) (by assumption) ?_
              rotate_left
              · intro w hSw
                (try dsimp only at hSw)
                go_simp
                all_goals with_reducible rfl
              try simp only [Act.put, List.getElem_toArray, List.getElem_cons_succ, List.getElem_cons_zero, List.setIfInBounds_toArray, List.set_cons_zero, List.set_cons_succ]
              refine wpAnyH_take (i := 12) (v := ?_) rfl (by kernel_rfl) (by kernel_rfl) (by kernel_rfl) (fun _ _ _ h => h) (Or.inl ⟨by rfl, ?_⟩) (by assumption) ?_
              rotate_left
              · intro w hSw
                (try dsimp only at hSw)
                go_simp
                all_goals with_reducible rfl
              try simp only [Act.put, List.getElem_toArray, List.getElem_cons_succ, List.getElem_cons_zero, List.setIfInBounds_toArray, List.set_cons_zero, List.set_cons_succ]
              refine wpAnyH_take (i := 13) (v := ?_) rfl (by kernel_rfl) (by kernel_rfl) (by kernel_rfl) (fun _ _ _ h => h) (Or.inl ⟨by rfl, ?_⟩) (by assumption) ?_
              rotate_left
              · intro w hSw
                (try dsimp only at hSw)
                go_simp
                all_goals with_reducible rfl
              try simp only [Act.put, List.getElem_toArray, List.getElem_cons_succ, List.getElem_cons_zero, List.setIfInBounds_toArray, List.set_cons_zero, List.set_cons_succ]
              refine wpAnyH_take (i := 14) (v := ?_) rfl (by kernel_rfl) (by kernel_rfl) (by kernel_rfl) (fun _ _ _ h => h) (Or.inl ⟨by rfl, ?_⟩) (by assumption) ?_
              rotate_left
              · intro w hSw
                (try dsimp only at hSw)
                go_simp
                all_goals with_reducible rfl
              try simp only [Act.put, List.getElem_toArray, List.getElem_cons_succ, List.getElem_cons_zero, List.setIfInBounds_toArray, List.set_cons_zero, List.set_cons_succ]
              refine wpAnyH_take (i := 15) (v := ?_) rfl (by kernel_rfl) (by kernel_rfl) (by kernel_rfl) (fun _ _ _ h => h) (Or.inl ⟨by rfl, ?_⟩) (by assumption) ?_
              rotate_left
              · intro w hSw
                (try dsimp only at hSw)
                go_simp
                all_goals with_reducible rfl
              try simp only [Act.put, List.getElem_toArray, List.getElem_cons_succ, List.getElem_cons_zero, List.setIfInBounds_toArray, List.set_cons_zero, List.set_cons_succ]
              refine wpAnyH_take (i := 16) (v := ?_) rfl (by kernel_rfl) (by kernel_rfl) (by kernel_rfl) (fun _ _ _ h => h) (Or.inl ⟨by rfl, ?_⟩) (by assumption) ?_
              rotate_left
              · intro w hSw
                (try dsimp only at hSw)
                go_simp
                all_goals with_reducible rfl
              try simp only [Act.put, List.getElem_toArray, List.getElem_cons_succ, List.getElem_cons_zero, List.setIfInBounds_toArray, List.set_cons_zero, List.set_cons_succ]
              refine wpAnyH_take (i := 18) (v := ?_) rfl (by kernel_rfl) (by kernel_rfl) (by kernel_rfl) (fun _ _ _ h => h) (Or.inl ⟨by rfl, ?_⟩) (by assumption) ?_
              rotate_left
              · intro w hSw
                (try dsimp only at hSw)
                go_simp
                all_goals with_reducible rfl
              try simp only [Act.put, List.getElem_toArray, List.getElem_cons_succ, List.getElem_cons_zero, List.setIfInBounds_toArray, List.set_cons_zero, List.set_cons_succ]
              refine wpAnyH_take (i := 19) (v := ?_) rfl (by kernel_rfl) (by kernel_rfl) (by kernel_rfl) (fun _ _ _ h => h) (Or.inl ⟨by rfl, ?_⟩) (by assumption) ?_
              rotate_left
              · intro w hSw
                (try dsimp only at hSw)
                go_simp
                all_goals with_reducible rfl
              try simp only [Act.put, List.getElem_toArray, List.getElem_cons_succ, List.getElem_cons_zero, List.setIfInBounds_toArray, List.set_cons_zero, List.set_cons_succ]
              refine wpAnyH_take (i := 20) (v := ?_) rfl (by kernel_rfl) (by kernel_rfl) (by kernel_rfl) (fun _ _ _ h => h) (Or.inl ⟨by rfl, ?_⟩) (by assumption) ?_
              rotate_left
              · intro w hSw
                (try dsimp only at hSw)
                go_simp
                all_goals with_reducible rfl
              try simp only [Act.put, List.getElem_toArray, List.getElem_cons_succ, List.getElem_cons_zero, List.setIfInBounds_toArray, List.set_cons_zero, List.set_cons_succ]
              refine wpAnyH_take (i := 21) (v := ?_) rfl (by kernel_rfl) (by kernel_rfl) (by kernel_rfl) (fun _ _ _ h => h) (Or.inl ⟨by rfl, ?_⟩) (by assumption) ?_
              rotate_left
              · intro w hSw
                (try dsimp only at hSw)
                go_simp
                all_goals with_reducible rfl
              try simp only [Act.put, List.getElem_toArray, List.getElem_cons_succ, List.getElem_cons_zero, List.setIfInBounds_toArray, List.set_cons_zero, List.set_cons_succ]
              refine wpAnyH_take (i := 22) (v := ?_) rfl (by kernel_rfl) (by kernel_rfl) (by kernel_rfl) (fun _ _ _ h => h) (Or.inl ⟨by rfl, ?_⟩) (by assumption) ?_
              rotate_left
              · intro w hSw
                (try dsimp only at hSw)
                go_simp
                all_goals with_reducible rfl
              try simp only [Act.put, List.getElem_toArray, List.getElem_cons_succ, List.getElem_cons_zero, List.setIfInBounds_toArray, List.set_cons_zero, List.set_cons_succ]
              refine wpAnyH_ready (rs := [17]) (by kernel_rfl) (by simp) ?_
              refine AllReadyH.cons rfl (fun K hK => ?_) AllReadyH.nil
              rw [if_pos (by rfl)]
              go_simp
              go_at_call 13
              refine (want_to HPd.out HKk.out K1.out.1 (by have := K1.out; omega) t x WV.out).mono ?_
              rintro e w6 ⟨rfl, b6⟩
              have B6 := bel2 B5 b6
              clear b6
              refine hK.out _ _ ?_ (fun hHeld => ?_)
              · exact (B6.cell (p := ⟨b2, o2 + j, none⟩) hbl).trans C0.out
              clear hK K
              try simp only [Act.put, List.getElem_toArray, List.getElem_cons_succ, List.getElem_cons_zero, List.setIfInBounds_toArray, List.set_cons_zero, List.set_cons_succ]
              refine wpAnyH_take (i := 23) (v := ?_) rfl (by kernel_rfl) (by kernel_rfl) (by kernel_rfl) (fun _ _ _ h => h) (Or.inl ⟨by rfl, ?_⟩) (by assumption) ?_
              rotate_left
              · intro w hSw
                (try dsimp only at hSw)
                go_simp
                all_goals with_reducible rfl
              try simp only [Act.put, List.getElem_toArray, List.getElem_cons_succ, List.getElem_cons_zero, List.setIfInBounds_toArray, List.set_cons_zero, List.set_cons_succ]
              refine wpAnyH_take (i := 24) (v := ?_) rfl (by kernel_rfl) (by kernel_rfl) (by kernel_rfl) (fun _ _ _ h => h) (Or.inl ⟨by rfl, ?_⟩) (by assumption) ?_
              rotate_left
              · intro w hSw
                (try dsimp only at hSw)
                go_simp
                all_goals with_reducible rfl
              try simp only [Act.put, List.getElem_toArray, List.getElem_cons_succ, List.getElem_cons_zero, List.setIfInBounds_toArray, List.set_cons_zero, List.set_cons_succ]
              refine wpAnyH_take (i := 25) (v := ?_) rfl (by kernel_rfl) (by kernel_rfl) (by kernel_rfl) (fun _ _ _ h => h) (Or.inl ⟨by rfl, ?_⟩) (by assumption) ?_
              rotate_left
              · intro w hSw
                (try dsimp only at hSw)
                go_simp
                all_goals with_reducible rfl
              try simp only [Act.put, List.getElem_toArray, List.getElem_cons_succ, List.getElem_cons_zero, List.setIfInBounds_toArray, List.set_cons_zero, List.set_cons_succ]
              refine wpAnyH_done (by kernel_rfl) ?_ _
              go_wp2
              go_ret
              exact ⟨rfl, B6⟩
          · obtain ⟨hend, hend8, hend9⟩ := hend
            by_cases hk00 : k = 0
            · exact absurd (show (k : Int) < 8 by omega) hend8
            · have dk : ((k : Int) == 0) = false := by simp; omega
              have K1 : Hid (1 ≤ (k : Int) ∧ (k : Int) ≤ 8) := by show _ ∧ _; have := HE.out; omega
              go_wp2_with fail
              refine (at_any K1.out.1 (by have := K1.out; omega) t _).mono ?_
              rintro e w9 ⟨rfl, h9⟩
              obtain rfl := h9.symm
              have hin := tod_in K1.out.1 t
              obtain ⟨j, hj⟩ : ∃ j : Nat, tod (k : Int) t = (j : Int) := ⟨(tod (k : Int) t).toNat, by omega⟩
              have HJ := Lib.hid hj
              rw [hj] at hin ⊢
              have hjk : j < k := by omega
              have j1 : (j : Int) < (k : Int) := by omega
              have j0 : (0 : Int) ≤ (j : Int) := by omega
              have hjn : j < n2 := by have := HKN.out; omega
              have j2 : (j : Int) < (n2 : Int) := by omega
              have WV := Lib.hid (show swn (rws f k) (tod (k : Int) t) = f j by rw [hj]; exact rws_swn f hjk)
              obtain ⟨b2, o2, rfl, hbl, hc⟩ := HN.out.at_ (by omega)
              have C0 := Lib.hid (hc j hjn)
              have e0 : ((ns.getD j 0 : Nat) : Int) = f j := (HF.out j).symm
              rw [e0] at C0
              have HB : Hid (0 ≤ f j ∧ f j ≤ 255) := by show _ ∧ _; rw [← e0]; have := HN.out.lt hjn; omega
              have HKk : Hid (k ≤ 100000) := by show _ ≤ _; have := K1.out; omega
              generalize f j = x at *
              obtain ⟨x0, x1⟩ := HB.out
              have wx0 : IntKind.i64.wrap x = x := by rw [IntKind.wrap_i64]; omega
              clear hc e0 hin hj hjk hjn hk00
              have c0 := (B4.out.cell (p := ⟨b2, o2 + j, none⟩) hbl).trans C0.out
              have HPd := Lib.hid (HP.out.on (Below.drew (Below.refl _ _)))
              have B5 := Below.drew B4.out
              go_upto_region 1 with fail
              refine wp_region_held_drew (S := fun wy => wy.cell? ⟨b2, o2 + j, none⟩ = some (.int .u8 x)) (by kernel_rfl) c0 (fun hHeld => ?_)
              refine wpAnyH_take (i := 0) (v := ?_) rfl (by kernel_rfl) (by kernel_rfl) (by kernel_rfl) (fun _ _ _ h => h) (Or.inl ⟨by rfl, ?_⟩) (by assumption) ?_
              rotate_left
              · intro w hSw
                (try dsimp only at hSw)
                go_simp
                all_goals with_reducible rfl
              try simp only [Act.put, List.getElem_toArray, List.getElem_cons_succ, List.getElem_cons_zero, List.setIfInBounds_toArray, List.set_cons_zero, List.set_cons_succ]
              refine wpAnyH_take (i := 1) (v := ?_) rfl (by kernel_rfl) (by kernel_rfl) (by kernel_rfl) (fun _ _ _ h => h) (Or.inl ⟨by rfl, ?_⟩) (by assumption) ?_
              rotate_left
              · intro w hSw
                (try dsimp only at hSw)
                go_simp
                all_goals with_reducible rfl
              try simp only [Act.put, List.getElem_toArray, List.getElem_cons_succ, List.getElem_cons_zero, List.setIfInBounds_toArray, List.set_cons_zero, List.set_cons_succ]
              refine wpAnyH_take (i := 2) (v := ?_) rfl (by kernel_rfl) (by kernel_rfl) (by kernel_rfl) (fun _ _ _ h => h) (Or.inl ⟨by rfl, ?_⟩) (by assumption) ?_
              rotate_left
              · intro w hSw
                (try dsimp only at hSw)
                go_simp
                all_goals with_reducible rfl
              try simp only [Act.put, List.getElem_toArray, List.getElem_cons_succ, List.getElem_cons_zero, List.setIfInBounds_toArray, List.set_cons_zero, List.set_cons_succ]
              refine wpAnyH_take (i := 3) (v := ?_) rfl (by kernel_rfl) (by kernel_rfl) (by kernel_rfl) (fun _ _ _ h => h) (Or.inl ⟨by rfl, ?_⟩) (by assumption) ?_
              rotate_left
              · intro w hSw
                (try dsimp only at hSw)
                go_simp
                all_goals with_reducible rfl
              try simp only [Act.put, List.getElem_toArray, List.getElem_cons_succ, List.getElem_cons_zero, List.setIfInBounds_toArray, List.set_cons_zero, List.set_cons_succ]
              refine wpAnyH_take (i := 4) (v := ?_) rfl (by kernel_rfl) (by kernel_rfl) (by kernel_rfl) (fun _ _ _ h => h) (Or.inl ⟨by rfl, ?_⟩) (by assumption) ?_
              rotate_left
              · intro w hSw
                (try dsimp only at hSw)
                go_simp
                all_goals with_reducible rfl
              try simp only [Act.put, List.getElem_toArray, List.getElem_cons_succ, List.getElem_cons_zero, List.setIfInBounds_toArray, List.set_cons_zero, List.set_cons_succ]
              refine wpAnyH_take (i := 5) (v := ?_) rfl (by kernel_rfl) (by kernel_rfl) (by kernel_rfl) (fun _ _ _ h => h) (Or.inl ⟨by rfl, ?_⟩) (by assumption) ?_
              rotate_left
              · intro w hSw
                (try dsimp only at hSw)
                go_simp
                all_goals with_reducible rfl
              try simp only [Act.put, List.getElem_toArray, List.getElem_cons_succ, List.getElem_cons_zero, List.setIfInBounds_toArray, List.set_cons_zero, List.set_cons_succ]
              refine wpAnyH_take (i := 6) (v := ?_) rfl (by kernel_rfl) (by kernel_rfl) (by kernel_rfl) (fun _ _ _ h => h) (Or.inl ⟨by rfl, ?_⟩) (by assumption) ?_
              rotate_left
              · intro w hSw
                (try dsimp only at hSw)
                go_simp
                all_goals with_reducible rfl
              try simp only [Act.put, List.getElem_toArray, List.getElem_cons_succ, List.getElem_cons_zero, List.setIfInBounds_toArray, List.set_cons_zero, List.set_cons_succ]
              refine wpAnyH_take (i := 7) (v := ?_) rfl (by kernel_rfl) (by kernel_rfl) (by kernel_rfl) (fun _ _ _ h => h) (Or.inl ⟨by rfl, ?_⟩) (by assumption) ?_
              rotate_left
              · intro w hSw
                (try dsimp only at hSw)
                go_simp
                all_goals with_reducible rfl
              try simp only [Act.put, List.getElem_toArray, List.getElem_cons_succ, List.getElem_cons_zero, List.setIfInBounds_toArray, List.set_cons_zero, List.set_cons_succ]
              refine wpAnyH_take (i := 8) (v := ?_) rfl (by kernel_rfl) (by kernel_rfl) (by kernel_rfl) (fun _ _ _ h => h) (Or.inl ⟨by rfl, ?_⟩) (by assumption) ?_
              rotate_left
              · intro w hSw
                (try dsimp only at hSw)
                go_simp
                all_goals with_reducible rfl
              try simp only [Act.put, List.getElem_toArray, List.getElem_cons_succ, List.getElem_cons_zero, List.setIfInBounds_toArray, List.set_cons_zero, List.set_cons_succ]
              refine wpAnyH_take (i := 9) (v := ?_) rfl (by kernel_rfl) (by kernel_rfl) (by kernel_rfl) (fun _ _ _ h => h) (Or.inl ⟨by rfl, ?_⟩) (by assumption) ?_
              rotate_left
              · intro w hSw
                (try dsimp only at hSw)
                go_simp
                all_goals with_reducible rfl
              try simp only [Act.put, List.getElem_toArray, List.getElem_cons_succ, List.getElem_cons_zero, List.setIfInBounds_toArray, List.set_cons_zero, List.set_cons_succ]
              refine wpAnyH_take (i := 10) (v := ?_) rfl (by kernel_rfl) (by kernel_rfl) (by kernel_rfl) (fun _ _ _ h => h) (Or.inl ⟨by rfl, ?_⟩) (by assumption) ?_
              rotate_left
              · intro w hSw
                (try dsimp only at hSw)
                go_simp
                all_goals with_reducible rfl
              try simp only [Act.put, List.getElem_toArray, List.getElem_cons_succ, List.getElem_cons_zero, List.setIfInBounds_toArray, List.set_cons_zero, List.set_cons_succ]
              refine wpAnyH_take (i := 11) (v := ?_) rfl (by kernel_rfl) (by kernel_rfl) (by kernel_rfl) (fun _ _ _ h => h) (Or.inl ⟨by rfl, ?_⟩) (by assumption) ?_
              rotate_left
              · intro w hSw
                (try dsimp only at hSw)
                go_simp
                all_goals with_reducible rfl
              try simp only [Act.put, List.getElem_toArray, List.getElem_cons_succ, List.getElem_cons_zero, List.setIfInBounds_toArray, List.set_cons_zero, List.set_cons_succ]
              refine wpAnyH_take (i := 12) (v := ?_) rfl (by kernel_rfl) (by kernel_rfl) (by kernel_rfl) (fun _ _ _ h => h) (Or.inl ⟨by rfl, ?_⟩) (by assumption) ?_
              rotate_left
              · intro w hSw
                (try dsimp only at hSw)
                go_simp
                all_goals with_reducible rfl
              try simp only [Act.put, List.getElem_toArray, List.getElem_cons_succ, List.getElem_cons_zero, List.setIfInBounds_toArray, List.set_cons_zero, List.set_cons_succ]
              refine wpAnyH_take (i := 13) (v := ?_) rfl (by kernel_rfl) (by kernel_rfl) (by kernel_rfl) (fun _ _ _ h => h) (Or.inl ⟨by rfl, ?_⟩) (by assumption) ?_
              rotate_left
              · intro w hSw
                (try dsimp only at hSw)
                go_simp
                all_goals with_reducible rfl
              try simp only [Act.put, List.getElem_toArray, List.getElem_cons_succ, List.getElem_cons_zero, List.setIfInBounds_toArray, List.set_cons_zero, List.set_cons_succ]
              refine wpAnyH_take (i := 14) (v := ?_) rfl (by kernel_rfl) (by kernel_rfl) (by kernel_rfl) (fun _ _ _ h => h) (Or.inl ⟨by rfl, ?_⟩) (by assumption) ?_
              rotate_left
              · intro w hSw
                (try dsimp only at hSw)
                go_simp
                all_goals with_reducible rfl
              try simp only [Act.put, List.getElem_toArray, List.getElem_cons_succ, List.getElem_cons_zero, List.setIfInBounds_toArray, List.set_cons_zero, List.set_cons_succ]
              refine wpAnyH_take (i := 15) (v := ?_) rfl (by kernel_rfl) (by kernel_rfl) (by kernel_rfl) (fun _ _ _ h => h) (Or.inl ⟨by rfl, ?_⟩) (by assumption) ?_
              rotate_left
              · intro w hSw
                (try dsimp only at hSw)
                go_simp
                all_goals with_reducible rfl
              try simp only [Act.put, List.getElem_toArray, List.getElem_cons_succ, List.getElem_cons_zero, List.setIfInBounds_toArray, List.set_cons_zero, List.set_cons_succ]
              refine wpAnyH_take (i := 16) (v := ?_) rfl (by kernel_rfl) (by kernel_rfl) (by kernel_rfl) (fun _ _ _ h => h) (Or.inl ⟨by rfl, ?_⟩) (by assumption) ?_
              rotate_left
              · intro w hSw
                (try dsimp only at hSw)
                go_simp
                all_goals with_reducible rfl
              try simp only [Act.put, List.getElem_toArray, List.getElem_cons_succ, List.getElem_cons_zero, List.setIfInBounds_toArray, List.set_cons_zero, List.set_cons_succ]
              refine wpAnyH_take (i := 18) (v := ?_) rfl (by kernel_rfl) (by kernel_rfl) (by kernel_rfl) (fun _ _ _ h => h) (Or.inl ⟨by rfl, ?_⟩) (by assumption) ?_
              rotate_left
              · intro w hSw
                (try dsimp only at hSw)
                go_simp
                all_goals with_reducible rfl
              try simp only [Act.put, List.getElem_toArray, List.getElem_cons_succ, List.getElem_cons_zero, List.setIfInBounds_toArray, List.set_cons_zero, List.set_cons_succ]
              refine wpAnyH_take (i := 19) (v := ?_) rfl (by kernel_rfl) (by kernel_rfl) (by kernel_rfl) (fun _ _ _ h => h) (Or.inl ⟨by rfl, ?_⟩) (by assumption) ?_
              rotate_left
              · intro w hSw
                (try dsimp only at hSw)
                go_simp
                all_goals with_reducible rfl
              try simp only [Act.put, List.getElem_toArray, List.getElem_cons_succ, List.getElem_cons_zero, List.setIfInBounds_toArray, List.set_cons_zero, List.set_cons_succ]
              refine wpAnyH_take (i := 20) (v := ?_) rfl (by kernel_rfl) (by kernel_rfl) (by kernel_rfl) (fun _ _ _ h => h) (Or.inl ⟨by rfl, ?_⟩) (by assumption) ?_
              rotate_left
              · intro w hSw
                (try dsimp only at hSw)
                go_simp
                all_goals with_reducible rfl
              try simp only [Act.put, List.getElem_toArray, List.getElem_cons_succ, List.getElem_cons_zero, List.setIfInBounds_toArray, List.set_cons_zero, List.set_cons_succ]
              refine wpAnyH_take (i := 21) (v := ?_) rfl (by kernel_rfl) (by kernel_rfl) (by kernel_rfl) (fun _ _ _ h => h) (Or.inl ⟨by rfl, ?_⟩) (by assumption) ?_
              rotate_left
              · intro w hSw
                (try dsimp only at hSw)
                go_simp
                all_goals with_reducible rfl
              try simp only [Act.put, List.getElem_toArray, List.getElem_cons_succ, List.getElem_cons_zero, List.setIfInBounds_toArray, List.set_cons_zero, List.set_cons_succ]
              refine wpAnyH_take (i := 22) (v := ?_) rfl (by kernel_rfl) (by kernel_rfl) (by kernel_rfl) (fun _ _ _ h => h) (Or.inl ⟨by rfl, ?_⟩) (by assumption) ?_
              rotate_left
              · intro w hSw
                (try dsimp only at hSw)
                go_simp
                all_goals with_reducible rfl
              try simp only [Act.put, List.getElem_toArray, List.getElem_cons_succ, List.getElem_cons_zero, List.setIfInBounds_toArray, List.set_cons_zero, List.set_cons_succ]
              refine wpAnyH_ready (rs := [17]) (by kernel_rfl) (by simp) ?_
              refine AllReadyH.cons rfl (fun K hK => ?_) AllReadyH.nil
              rw [if_pos (by rfl)]
              go_simp
              go_at_call 13
              refine (want_to HPd.out HKk.out K1.out.1 (by have := K1.out; omega) t x WV.out).mono ?_
              rintro e w6 ⟨rfl, b6⟩
              have B6 := bel2 B5 b6
              clear b6
              refine hK.out _ _ ?_ (fun hHeld => ?_)
              · exact (B6.cell (p := ⟨b2, o2 + j, none⟩) hbl).trans C0.out
              clear hK K
              try simp only [Act.put, List.getElem_toArray, List.getElem_cons_succ, List.getElem_cons_zero, List.setIfInBounds_toArray, List.set_cons_zero, List.set_cons_succ]
              refine wpAnyH_take (i := 23) (v := ?_) rfl (by kernel_rfl) (by kernel_rfl) (by kernel_rfl) (fun _ _ _ h => h) (Or.inl ⟨by rfl, ?_⟩) (by assumption) ?_
              rotate_left
              · intro w hSw
                (try dsimp only at hSw)
                go_simp
                all_goals with_reducible rfl
              try simp only [Act.put, List.getElem_toArray, List.getElem_cons_succ, List.getElem_cons_zero, List.setIfInBounds_toArray, List.set_cons_zero, List.set_cons_succ]
              refine wpAnyH_take (i := 24) (v := ?_) rfl (by kernel_rfl) (by kernel_rfl) (by kernel_rfl) (fun _ _ _ h => h) (Or.inl ⟨by rfl, ?_⟩) (by assumption) ?_
              rotate_left
              · intro w hSw
                (try dsimp only at hSw)
                go_simp
                all_goals with_reducible rfl
              try simp only [Act.put, List.getElem_toArray, List.getElem_cons_succ, List.getElem_cons_zero, List.setIfInBounds_toArray, List.set_cons_zero, List.set_cons_succ]
              refine wpAnyH_take (i := 25) (v := ?_) rfl (by kernel_rfl) (by kernel_rfl) (by kernel_rfl) (fun _ _ _ h => h) (Or.inl ⟨by rfl, ?_⟩) (by assumption) ?_
              rotate_left
              · intro w hSw
                (try dsimp only at hSw)
                go_simp
                all_goals with_reducible rfl
              try simp only [Act.put, List.getElem_toArray, List.getElem_cons_succ, List.getElem_cons_zero, List.setIfInBounds_toArray, List.set_cons_zero, List.set_cons_succ]
              refine wpAnyH_done (by kernel_rfl) ?_ _
              go_wp2
              go_ret
              exact ⟨rfl, B6⟩
end Go.Proofs.Ytipblgongblklaa

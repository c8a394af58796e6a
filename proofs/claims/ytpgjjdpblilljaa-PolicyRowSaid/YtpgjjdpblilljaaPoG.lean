/- What the statements of policy ask of a policy; the live question. -/
import Derived.Test.YtpgjjdpblilljaaPoF
namespace Go.Proofs.Ytpgjjdpblilljaa
set_option linter.unusedSimpArgs false
set_option linter.unusedVariables false
open Go.RowKit
open Evn Plc
attribute [local go_sem] Oper.semAt_some

theorem wpList_load_rowP {P : Program} {ops : Array Oper} {rest : List Oper} {o : Oper} {a : Act} {w : World} {Q : Exit → Act → World → Prop} (hgd : Region.wanted o (yielded ops a.tmps) = true) (ty : TypeId) (x : Operand) (ho : o.op = .load ty x)
    (g : Nat) (hx : a.eval x = .pointer (some ⟨g, 0, none⟩)) (t : TypeId) (cs : Array Value) (fr : Nat × Nat) (d : TypeDesc) (hg : w.heap[g]? = some (.cells cs t fr))
    (hu : P.underlying ty = some d) (hd : (match d with | .struct _ | .array _ _ => true | _ => false) = true) (hi : (P.info? ty).map (·.size) = some cs.size)
    (h : wpList P ops Q rest (a.put o.dst (.agg cs)) w) : wpList P ops Q (o :: rest) a w :=
  wpList_step fun _ hK => by rw [if_pos hgd]; exact wp_load_row ty x ho g hx t cs fr d hg hu hd hi (hK _ _ h)
set_option maxRecDepth 100000 in
set_option maxHeartbeats 1600000 in
theorem pright_any {w : World} {p : Pl} {a1 a2 : Option Addr} {c1 c2 : Nat} (h1 : PRow w a1 p.bands.length c1 p.bands) (h2 : PRow w a2 p.slots.length c2 p.slots) :
    Calls Try.prog 10 #[plV p a1 a2 c1 c2] w fun r w' => r = .returned (.bool (okP p)) ∧ Below w.heap.size w w' := by
  have m1 := h1.1.max
  have l1 := h1.1.le
  have m2 := h2.1.max
  have l2 := h2.1.le
  unfold maxLen at m1 m2
  have HQ : Hid (okP p = (decide (p.bands.length ≤ 8) && (decide (p.slots.length ≤ 8) && (polR p || zeroR p)))) := rfl
  obtain ⟨x, hx⟩ : ∃ x, x = w.alloc (.cells #[.int .i64 p.kind, .int .i64 p.target, .slice a1 p.bands.length c1, .int .i64 p.kp, .int .i64 p.ki, .int .i64 p.kd, .int .i64 p.period, .slice a2 p.slots.length c2] 25) := ⟨_, rfl⟩
  have hB : Below w.heap.size w x := by rw [hx]; exact bel1 (Below.refl _ _) _
  have HP : Hid (PBx x w.heap.size p a1 a2 c1 c2) := by show PBx _ _ _ _ _ _ _; rw [hx]; exact heap_alloc_new _ _
  have HD := Lib.hid (dpol_any p (h1.on hB) (h2.on hB))
  have HZ := Lib.hid (fun y => dzero_any p a1 a2 c1 c2 y)
  have HB := Lib.hid hB
  have HX := Lib.hid hx
  clear h1 h2 hB hx
  unfold plV at *
  generalize hn1 : p.bands.length = n1 at *
  generalize hn2 : p.slots.length = n2 at *
  have e1 := Lib.hid hn1
  have e2 := Lib.hid hn2
  clear hn1 hn2
  by_cases h8 : n1 ≤ 8
  · have h8' : (n1 : Int) ≤ 8 := by omega
    rw [decide_eq_true h8] at HQ
    clear h8
    by_cases k8 : n2 ≤ 8
    · have k8' : (n2 : Int) ≤ 8 := by omega
      rw [decide_eq_true k8] at HQ
      clear k8
      go_enter Try.func10, Try.ntmps10
      go_wp2_with fail
      rw [← HX.out]
      refine HD.out.mono ?_
      rintro r w1 ⟨rfl, b1⟩
      have B1 := Lib.hid (bel2 HB.out b1)
      have HP1 := Lib.hid (HP.out.on b1)
      clear HD HX HB HP b1
      cases hp : polR p
      · have HQ2 : Hid (okP p = zeroR p) := by show _ = _; rw [HQ.out, hp]; rfl
        clear HQ hp
        unfold PBx at HP1
        rw [e1.out, e2.out] at HP1
        go_wp2_with (first
          | (refine wpList_load_rowP (by first | rfl | kernel_rfl | (simp [Region.wanted, yielded])) 25 (.tmp 1) (by rfl) w.heap.size (by rfl) 25 _ (0, 0) _ HP1.out Try.underlying25 (by rfl) (by kernel_rfl) ?_)
          | fail)
        refine (HZ.out _).mono ?_
        rintro r w2 ⟨rfl, b2⟩
        have B2 := Lib.hid (bel2 B1.out b2)
        clear B1 b2 HZ HP1
        generalize zeroR p = q at *
        go_wp2
        go_ret
        exact ⟨ret_bool HQ2.out.symm, B2.out⟩
      · have HQ2 : Hid (okP p = true) := by show _ = _; rw [HQ.out, hp]; rfl
        clear HQ hp
        go_wp2
        go_ret
        exact ⟨ret_bool HQ2.out.symm, B1.out⟩
    · have k8' : ¬ ((n2 : Int) ≤ 8) := by omega
      rw [decide_eq_false k8] at HQ
      have HQ2 : Hid (okP p = false) := HQ.out
      clear k8 HQ HD HZ
      go_enter Try.func10, Try.ntmps10
      go_wp2
      go_ret
      exact ⟨ret_bool HQ2.out.symm, bel1 (Below.refl _ _) _⟩
  · have h8' : ¬ ((n1 : Int) ≤ 8) := by omega
    rw [decide_eq_false h8] at HQ
    have HQ2 : Hid (okP p = false) := HQ.out
    clear h8 HQ HD HZ
    go_enter Try.func10, Try.ntmps10
    go_wp2
    go_ret
    exact ⟨ret_bool HQ2.out.symm, bel1 (Below.refl _ _) _⟩
theorem pnext_to {w : World} (p : Pl) {a1 a2 : Option Addr} {c1 c2 : Nat} (hok : okP p = true) (h1 : PRow w a1 p.bands.length c1 p.bands) (h2 : PRow w a2 p.slots.length c2 p.slots) (s e : Int) (h : Bool) (c u t : Int) (z : Sta) (n : Int)
    (hz : carry p (s, e, h) u = z) (hn : many p (s, e, h) c u t = n) :
    Calls Try.prog 11 #[plV p a1 a2 c1 c2, stV s e h, .int .i64 c, .int .i64 u, .int .i64 t] w fun r w' =>
      r = .returned (.tuple #[staV z, .int .i64 n]) ∧ Below w.heap.size w w' := hz ▸ hn ▸ pnext_any hok h1 h2 s e h c u t
theorem pzero_to (p : Pl) (b : Bool) (hb : decide (p.kind = 0) = b) (a1 a2 : Option Addr) (c1 c2 : Nat) (w : World) :
    Calls Try.prog 13 #[plV p a1 a2 c1 c2] w fun r w' => r = .returned (.bool b) ∧ Below w.heap.size w w' := hb ▸ pzero_any p a1 a2 c1 c2 w
theorem oneS_row (w : World) : PRow (w.alloc (.cells #[.int .i64 0, .int .i64 3] 43)) (some ⟨w.heap.size, 0, none⟩) 1 1 [(0, 3)] :=
  ⟨Row.new (heap_alloc_new w _) (fun j hj => by
    have : j = 0 ∨ j = 1 := by omega
    rcases this with rfl | rfl <;> rfl) (by decide), rfl⟩
set_option maxRecDepth 100000 in
set_option maxHeartbeats 3200000 in
theorem phead_any (w : World) :
    Calls Try.prog 9 #[] w fun r w' => r = .returned (.bool true) ∧ Below w.heap.size w w' := by
  have S0 : Hid (StAt (w.alloc (.cells #[.int .i64 5, .int .i64 0, .bool true] 27)) w.heap.size 5 0 true) := heap_alloc_new _ _
  have B : Hid (Below w.heap.size w (w.alloc (.cells #[.int .i64 5, .int .i64 0, .bool true] 27))) := bel1 (Below.refl _ _) _
  go_enter Try.func9, Try.ntmps9
  go_upto_region 2 with fail
  generalize w.alloc (.cells #[.int .i64 5, .int .i64 0, .bool true] 27) = w0 at *
  obtain ⟨cs0, cs1, cs2, _⟩ := StAt.c S0.out (Below.refl _ _)
  go_wp2_with fail
  refine (pnext_to ⟨1, 600, [], 0, 0, 0, 0, []⟩ (by decide +kernel) PRow.nil_ PRow.nil_ 5 0 true 4 900 0 (5, 0, true) 6 (by decide +kernel) (by decide +kernel)).mono ?_
  rintro r v1 ⟨rfl, b⟩
  unfold staV stV
  simp only
  have S0 := Lib.hid (S0.out.on b)
  clear cs0 cs1 cs2
  have B := Lib.hid (bel2 B.out b)
  clear b
  go_upto_region 3 with fail
  obtain ⟨w1, hw⟩ : ∃ w1, w1 = v1.alloc (.cells #[.int .i64 5, .int .i64 0, .bool true] 27) := ⟨_, rfl⟩
  rw [← hw]
  have b : Below v1.heap.size v1 w1 := by rw [hw]; exact bel1 (Below.refl _ _) _
  have S1 : Hid (StAt w1 v1.heap.size 5 0 true) := by show StAt _ _ _ _ _; rw [hw]; exact heap_alloc_new _ _
  have S0 := Lib.hid (S0.out.on b)
  have B := Lib.hid (bel2 B.out b)
  clear hw b
  go_wp2_with fail
  refine (pnext_to ⟨3, 500, [], 5000, 0, 0, 0, []⟩ (by decide +kernel) PRow.nil_ PRow.nil_ 0 0 false 4 900 0 (400, 400, true) 6 (by decide +kernel) (by decide +kernel)).mono ?_
  rintro r v2 ⟨rfl, b⟩
  unfold staV stV
  simp only
  have S0 := Lib.hid (S0.out.on b)
  have S1 := Lib.hid (S1.out.on b)
  have B := Lib.hid (bel2 B.out b)
  clear b
  go_upto_region 4 with fail
  obtain ⟨w2, hw⟩ : ∃ w2, w2 = v2.alloc (.cells #[.int .i64 400, .int .i64 400, .bool true] 27) := ⟨_, rfl⟩
  rw [← hw]
  have b : Below v2.heap.size v2 w2 := by rw [hw]; exact bel1 (Below.refl _ _) _
  have S2 : Hid (StAt w2 v2.heap.size 400 400 true) := by show StAt _ _ _ _ _; rw [hw]; exact heap_alloc_new _ _
  have S0 := Lib.hid (S0.out.on b)
  have S1 := Lib.hid (S1.out.on b)
  have B := Lib.hid (bel2 B.out b)
  clear hw b
  obtain ⟨x2, hx2⟩ : ∃ x2, x2 = w2.alloc (.cells #[.int .i64 0, .int .i64 3] 43) := ⟨_, rfl⟩
  have hr2 : PRow x2 (some ⟨w2.heap.size, 0, none⟩) 1 1 [(0, 3)] := by rw [hx2]; exact oneS_row w2
  have bx : Below w2.heap.size w2 x2 := by rw [hx2]; exact bel1 (Below.refl _ _) _
  have HR2 := Lib.hid hr2
  have HX2 := Lib.hid hx2
  have T0 := Lib.hid (S0.out.on bx)
  have T1 := Lib.hid (S1.out.on bx)
  have T2 := Lib.hid (S2.out.on bx)
  have B := Lib.hid (bel2 B.out bx)
  clear bx hx2 hr2 S1 S2
  go_upto_region 4 with fail
  have K0 := Lib.hid (StAt.c T0.out (Below.refl _ _))
  clear S0
  rw [HX2.out] at K0
  obtain ⟨cs0, cs1, cs2, _⟩ := K0.out
  go_wp2_with fail
  rw [← HX2.out]
  refine (pnext_to ⟨4, 0, [], 0, 0, 0, 4, [(0, 3)]⟩ (by decide +kernel) PRow.nil_ HR2.out 5 0 true 4 900 9 (5, 0, true) 3 (by decide +kernel) (by decide +kernel)).mono ?_
  rintro r v3 ⟨rfl, b⟩
  unfold staV stV
  simp only
  have T0 := Lib.hid (T0.out.on b)
  have T1 := Lib.hid (T1.out.on b)
  have T2 := Lib.hid (T2.out.on b)
  clear cs0 cs1 cs2 K0 HX2 HR2
  have B := Lib.hid (bel2 B.out b)
  clear b
  go_upto_region 5 with fail
  obtain ⟨w3, hw⟩ : ∃ w3, w3 = v3.alloc (.cells #[.int .i64 5, .int .i64 0, .bool true] 27) := ⟨_, rfl⟩
  rw [← hw]
  have b : Below v3.heap.size v3 w3 := by rw [hw]; exact bel1 (Below.refl _ _) _
  have S3 : Hid (StAt w3 v3.heap.size 5 0 true) := by show StAt _ _ _ _ _; rw [hw]; exact heap_alloc_new _ _
  have T0 := Lib.hid (T0.out.on b)
  have T1 := Lib.hid (T1.out.on b)
  have T2 := Lib.hid (T2.out.on b)
  have B := Lib.hid (bel2 B.out b)
  clear hw b
  obtain ⟨cs0, cs1, cs2, _⟩ := StAt.c T0.out (Below.refl _ _)
  clear S3
  go_wp2_with fail
  refine (pnext_to ⟨0, 0, [], 0, 0, 0, 0, []⟩ (by decide +kernel) PRow.nil_ PRow.nil_ 5 0 true 2000 900 9 (5, 0, true) 1000 (by decide +kernel) (by decide +kernel)).mono ?_
  rintro r v4 ⟨rfl, b⟩
  unfold staV stV
  simp only
  have T0 := Lib.hid (T0.out.on b)
  have T1 := Lib.hid (T1.out.on b)
  have T2 := Lib.hid (T2.out.on b)
  clear cs0 cs1 cs2
  have B := Lib.hid (bel2 B.out b)
  clear b
  go_upto_region 6 with fail
  obtain ⟨w4, hw⟩ : ∃ w4, w4 = v4.alloc (.cells #[.int .i64 5, .int .i64 0, .bool true] 27) := ⟨_, rfl⟩
  rw [← hw]
  have b : Below v4.heap.size v4 w4 := by rw [hw]; exact bel1 (Below.refl _ _) _
  have S4 : Hid (StAt w4 v4.heap.size 5 0 true) := by show StAt _ _ _ _ _; rw [hw]; exact heap_alloc_new _ _
  have T0 := Lib.hid (T0.out.on b)
  have T1 := Lib.hid (T1.out.on b)
  have T2 := Lib.hid (T2.out.on b)
  have B := Lib.hid (bel2 B.out b)
  clear hw b
  go_wp2_with fail
  refine (pnext_to ⟨3, 500, [], (-5000), 0, 0, 0, []⟩ (by decide +kernel) PRow.nil_ PRow.nil_ 0 0 false 1 900 0 (400, 400, true) 0 (by decide +kernel) (by decide +kernel)).mono ?_
  rintro r v5 ⟨rfl, b⟩
  unfold staV stV
  simp only
  have T0 := Lib.hid (T0.out.on b)
  have T1 := Lib.hid (T1.out.on b)
  have T2 := Lib.hid (T2.out.on b)
  have S4 := Lib.hid (S4.out.on b)
  have B := Lib.hid (bel2 B.out b)
  clear b
  go_upto_region 7 with fail
  obtain ⟨w5, hw⟩ : ∃ w5, w5 = v5.alloc (.cells #[.int .i64 400, .int .i64 400, .bool true] 27) := ⟨_, rfl⟩
  rw [← hw]
  have b : Below v5.heap.size v5 w5 := by rw [hw]; exact bel1 (Below.refl _ _) _
  have S5 : Hid (StAt w5 v5.heap.size 400 400 true) := by show StAt _ _ _ _ _; rw [hw]; exact heap_alloc_new _ _
  have T0 := Lib.hid (T0.out.on b)
  have T1 := Lib.hid (T1.out.on b)
  have T2 := Lib.hid (T2.out.on b)
  have S4 := Lib.hid (S4.out.on b)
  have B := Lib.hid (bel2 B.out b)
  clear hw b
  obtain ⟨ca0, ca1, ca2, _⟩ := StAt.c T0.out (Below.refl _ _)
  obtain ⟨cb0, cb1, cb2, _⟩ := StAt.c T1.out (Below.refl _ _)
  obtain ⟨cc0, cc1, cc2, _⟩ := StAt.c T2.out (Below.refl _ _)
  obtain ⟨cd0, cd1, cd2, _⟩ := StAt.c S4.out (Below.refl _ _)
  go_wp2_with fail
  refine (pzero_to ⟨0, 0, [], 0, 0, 0, 0, []⟩ true (by decide) none none 0 0 _).mono ?_
  rintro r v6 ⟨rfl, b⟩
  have B := Lib.hid (bel2 B.out b)
  clear b
  go_wp2_with fail
  refine (pzero_to ⟨1, 0, [], 0, 0, 0, 0, []⟩ false (by decide) none none 0 0 _).mono ?_
  rintro r v7 ⟨rfl, b⟩
  have B := Lib.hid (bel2 B.out b)
  clear b
  go_wp2
  go_ret
  exact ⟨rfl, B.out⟩
end Go.Proofs.Ytpgjjdpblilljaa

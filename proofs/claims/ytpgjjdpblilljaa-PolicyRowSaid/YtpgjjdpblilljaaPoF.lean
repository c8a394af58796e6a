/- Policy: Next of any policy that may be; the document's Next; both Zeros; Right. -/
import Derived.Test.YtpgjjdpblilljaaPoE0
import Derived.Test.YtpgjjdpblilljaaPoE1
import Derived.Test.YtpgjjdpblilljaaPoE2
import Derived.Test.YtpgjjdpblilljaaPoE3
import Derived.Test.YtpgjjdpblilljaaPoE4
import Derived.Test.YtpgjjdpblilljaaEwZ
namespace Go.Proofs.Ytpgjjdpblilljaa
set_option linter.unusedSimpArgs false
set_option linter.unusedVariables false
open Go.RowKit
open Evn Plc
attribute [local go_sem] Oper.semAt_some

/-- May a policy be. -/
def okP (p : Pl) : Bool := decide (p.bands.length ≤ 8) && (decide (p.slots.length ≤ 8) && (polR p || zeroR p))
/-- What that tells, by kinds. -/
inductive OkK (p : Pl) : Prop
  | none (h : p.kind = 0)
  | track (h : p.kind = 1)
  | step (h : p.kind = 2) (hu : Stp.Up p.bands) (hd : Del p.bands) (hl : p.bands.length ≤ 8)
  | pid (h : p.kind = 3)
  | slots (h : p.kind = 4) (ho : Sdl.SOk p.period p.slots)
theorem okP_ {p : Pl} (h : okP p = true) : OkK p := by
  unfold okP at h
  simp only [Bool.and_eq_true, Bool.or_eq_true, decide_eq_true_eq] at h
  obtain ⟨h1, h2, h3 | h3⟩ := h
  · by_cases k1 : p.kind = 1
    · exact .track k1
    · by_cases k2 : p.kind = 2
      · have g := polR_bands h3 k2
        unfold bandsOk at g
        simp only [Bool.and_eq_true, decide_eq_true_eq] at g
        have q := Stp.bandsR_ge p.bands 0 g.2
        exact .step k2 (Stp.bandsR_Up p.bands 0 g.2) (fun i hi => ⟨(q i hi).2.2.1, (q i hi).2.2.2⟩) h1
      · by_cases k3 : p.kind = 3
        · exact .pid k3
        · by_cases k4 : p.kind = 4
          · exact .slots k4 (polR_slots h3 k4)
          · unfold polR at h3
            rw [if_neg k1, if_neg k2, if_neg k3, if_neg k4] at h3
            cases h3
  · unfold zeroR at h3
    exact .none (of_decide_eq_true h3).1
theorem pnext_any {w : World} {p : Pl} {a1 a2 : Option Addr} {c1 c2 : Nat} (hok : okP p = true) (h1 : PRow w a1 p.bands.length c1 p.bands) (h2 : PRow w a2 p.slots.length c2 p.slots) (s e : Int) (h : Bool) (c u t : Int) :
    Calls Try.prog 11 #[plV p a1 a2 c1 c2, stV s e h, .int .i64 c, .int .i64 u, .int .i64 t] w fun r w' =>
      r = .returned (.tuple #[staV (carry p (s, e, h) u), .int .i64 (many p (s, e, h) c u t)]) ∧ Below w.heap.size w w' := by
  cases okP_ hok with
  | none hk => exact pnext0 hk h1 h2 s e h c u t
  | track hk => exact pnext1 hk h1 h2 s e h c u t
  | step hk hu hd hl => exact pnext2 hk hu hd hl h1 h2 s e h c u t
  | pid hk => exact pnext3 hk h1 h2 s e h c u t
  | slots hk ho => exact pnext4 hk ho h1 h2 s e h c u t
theorem pzero_any (p : Pl) (a1 a2 : Option Addr) (c1 c2 : Nat) (w : World) :
    Calls Try.prog 13 #[plV p a1 a2 c1 c2] w fun r w' => r = .returned (.bool (decide (p.kind = 0))) ∧ Below w.heap.size w w' := by
  unfold plV
  go_enter Try.func13, Try.ntmps13
  go_wp2
  go_ret
  exact ⟨ret_bool (by rfl), bel1 (Below.refl _ _) _⟩
theorem rpzero_any (p : Pl) (a1 a2 : Option Addr) (c1 c2 : Nat) (w : World) :
    Calls Try.prog 14 #[plV p a1 a2 c1 c2] w fun r w' => r = .returned (.bool (decide (p.kind = 0))) ∧ Below w.heap.size w w' := by
  unfold plV
  go_enter Try.func14, Try.ntmps14
  go_wp2
  go_ret
  exact ⟨ret_bool (by rfl), bel1 (Below.refl _ _) _⟩
theorem al3 (w : World) (a b c : Obj) : (((w.alloc a).alloc b).alloc c).heap[w.heap.size + 1 + 1]? = some c := by
  have e : w.heap.size + 1 + 1 = ((w.alloc a).alloc b).heap.size := by simp
  rw [e]
  exact heap_alloc_new _ _
set_option maxRecDepth 100000 in
set_option maxHeartbeats 3200000 in
theorem rpnext0 {w : World} {p : Pl} {a1 a2 : Option Addr} {c1 c2 : Nat} (hk : p.kind = 0) (h1 : PRow w a1 p.bands.length c1 p.bands) (h2 : PRow w a2 p.slots.length c2 p.slots) (s e : Int) (h : Bool) (c u t : Int) :
    Calls Try.prog 12 #[plV p a1 a2 c1 c2, stV s e h, .int .i64 c, .int .i64 u, .int .i64 t] w fun r w' =>
      r = .returned (.tuple #[staV (carry p (s, e, h) u), .int .i64 (many p (s, e, h) c u t)]) ∧ Below w.heap.size w w' := by
  have HV : Hid (carry p (s, e, h) u = (s, e, h) ∧ many p (s, e, h) c u t = rep (rep c)) := ⟨carry_else (by rw [hk]; decide) _ _, by rw [many_zero hk, rep_rep]⟩
  obtain ⟨x, hx⟩ : ∃ x, x = ((w.alloc (.cells #[.int .i64 0, .int .i64 p.target, .slice a1 p.bands.length c1, .int .i64 p.kp, .int .i64 p.ki, .int .i64 p.kd, .int .i64 p.period, .slice a2 p.slots.length c2] 25)).alloc (.cells #[.int .i64 s, .int .i64 e, .bool h] 27)).alloc (.cells #[.int .i64 0, .int .i64 0, .bool false] 27) := ⟨_, rfl⟩
  have hB : Below w.heap.size w x := by rw [hx]; exact bel1 (bel1 (bel1 (Below.refl _ _) _) _) _
  have H1 := Lib.hid (h1.on hB)
  have H2 := Lib.hid (h2.on hB)
  have HX := Lib.hid hx
  clear hB hx h1 h2
  have e1 : min (max c 0) 1000 = rep c := by unfold rep; omega
  have hc := rep_le c
  generalize rep c = C at *
  have hw : IntKind.i64.wrap C = C := by rw [IntKind.wrap_i64]; omega
  unfold plV stV
  go_enter Try.func12, Try.ntmps12
  have e2 : min (max C 0) 1000 = rep C := by unfold rep; omega
  clear HX H1 H2
  go_wp2
  refine bodyPost_ret (results_row_tmp1 rfl _ _ (w.heap.size + 1 + 1) _ _ _ _ rfl (al3 _ _ _ _) Try.underlying27 (by rfl) (by kernel_rfl)) (by rfl) ?_
  exact ⟨by rw [HV.out.1, HV.out.2]; rfl, bel1 (bel1 (bel1 (Below.refl _ _) _) _) _⟩
set_option maxRecDepth 100000 in
set_option maxHeartbeats 3200000 in
theorem rpnext1 {w : World} {p : Pl} {a1 a2 : Option Addr} {c1 c2 : Nat} (hk : p.kind = 1) (h1 : PRow w a1 p.bands.length c1 p.bands) (h2 : PRow w a2 p.slots.length c2 p.slots) (s e : Int) (h : Bool) (c u t : Int) :
    Calls Try.prog 12 #[plV p a1 a2 c1 c2, stV s e h, .int .i64 c, .int .i64 u, .int .i64 t] w fun r w' =>
      r = .returned (.tuple #[staV (carry p (s, e, h) u), .int .i64 (many p (s, e, h) c u t)]) ∧ Below w.heap.size w w' := by
  have HV : Hid (carry p (s, e, h) u = (s, e, h) ∧ many p (s, e, h) c u t = rep (Tk.wt p.target (rep c) u)) := ⟨carry_else (by rw [hk]; decide) _ _, many_track hk _ _ _ _⟩
  obtain ⟨x, hx⟩ : ∃ x, x = ((w.alloc (.cells #[.int .i64 1, .int .i64 p.target, .slice a1 p.bands.length c1, .int .i64 p.kp, .int .i64 p.ki, .int .i64 p.kd, .int .i64 p.period, .slice a2 p.slots.length c2] 25)).alloc (.cells #[.int .i64 s, .int .i64 e, .bool h] 27)).alloc (.cells #[.int .i64 0, .int .i64 0, .bool false] 27) := ⟨_, rfl⟩
  have hB : Below w.heap.size w x := by rw [hx]; exact bel1 (bel1 (bel1 (Below.refl _ _) _) _) _
  have H1 := Lib.hid (h1.on hB)
  have H2 := Lib.hid (h2.on hB)
  have HX := Lib.hid hx
  clear hB hx h1 h2
  have e1 : min (max c 0) 1000 = rep c := by unfold rep; omega
  have hc := rep_le c
  generalize rep c = C at *
  have hw : IntKind.i64.wrap C = C := by rw [IntKind.wrap_i64]; omega
  clear hc
  unfold plV stV
  go_enter Try.func12, Try.ntmps12
  go_wp2_with fail
  refine (tkrwant_any p.target C u _).mono ?_
  rintro r w9 ⟨rfl, h9⟩
  obtain rfl := h9.symm
  have h0 := Tk.wt_le p.target C u
  have e2 : min (max (Tk.wt p.target C u) 0) 1000 = rep (Tk.wt p.target C u) := by unfold rep; omega
  have HV := HV
  clear HX H1 H2
  generalize Tk.wt p.target C u = n at *
  go_wp2
  refine bodyPost_ret (results_row_tmp1 rfl _ _ (w.heap.size + 1 + 1) _ _ _ _ rfl (al3 _ _ _ _) Try.underlying27 (by rfl) (by kernel_rfl)) (by rfl) ?_
  exact ⟨by rw [HV.out.1, HV.out.2]; rfl, bel1 (bel1 (bel1 (Below.refl _ _) _) _) _⟩
set_option maxRecDepth 100000 in
set_option maxHeartbeats 3200000 in
theorem rpnext2 {w : World} {p : Pl} {a1 a2 : Option Addr} {c1 c2 : Nat} (hk : p.kind = 2) (hd : Del p.bands) (h1 : PRow w a1 p.bands.length c1 p.bands) (h2 : PRow w a2 p.slots.length c2 p.slots) (s e : Int) (h : Bool) (c u t : Int) :
    Calls Try.prog 12 #[plV p a1 a2 c1 c2, stV s e h, .int .i64 c, .int .i64 u, .int .i64 t] w fun r w' =>
      r = .returned (.tuple #[staV (carry p (s, e, h) u), .int .i64 (many p (s, e, h) c u t)]) ∧ Below w.heap.size w w' := by
  have HV : Hid (carry p (s, e, h) u = (s, e, h) ∧ many p (s, e, h) c u t = rep (Stp.wnt p.bands (rep c) u)) := ⟨carry_else (by rw [hk]; decide) _ _, many_step hk _ _ _ _⟩
  obtain ⟨x, hx⟩ : ∃ x, x = ((w.alloc (.cells #[.int .i64 2, .int .i64 p.target, .slice a1 p.bands.length c1, .int .i64 p.kp, .int .i64 p.ki, .int .i64 p.kd, .int .i64 p.period, .slice a2 p.slots.length c2] 25)).alloc (.cells #[.int .i64 s, .int .i64 e, .bool h] 27)).alloc (.cells #[.int .i64 0, .int .i64 0, .bool false] 27) := ⟨_, rfl⟩
  have hB : Below w.heap.size w x := by rw [hx]; exact bel1 (bel1 (bel1 (Below.refl _ _) _) _) _
  have H1 := Lib.hid (h1.on hB)
  have H2 := Lib.hid (h2.on hB)
  have HX := Lib.hid hx
  clear hB hx h1 h2
  have HD := Lib.hid hd
  clear hd
  have e1 : min (max c 0) 1000 = rep c := by unfold rep; omega
  have hc := rep_le c
  generalize rep c = C at *
  have hw : IntKind.i64.wrap C = C := by rw [IntKind.wrap_i64]; omega
  clear hc
  unfold plV stV
  go_enter Try.func12, Try.ntmps12
  go_wp2_with fail
  rw [← HX.out]
  refine (strwant_any H1.out HD.out C u).mono ?_
  rintro r w9 ⟨rfl, h9⟩
  obtain rfl := h9.symm
  rw [HX.out]
  have h0 := Stp.wnt_le p.bands C u
  have e2 : min (max (Stp.wnt p.bands C u) 0) 1000 = rep (Stp.wnt p.bands C u) := by unfold rep; omega
  have HV := HV
  clear HX H1 H2
  generalize Stp.wnt p.bands C u = n at *
  go_wp2
  refine bodyPost_ret (results_row_tmp1 rfl _ _ (w.heap.size + 1 + 1) _ _ _ _ rfl (al3 _ _ _ _) Try.underlying27 (by rfl) (by kernel_rfl)) (by rfl) ?_
  exact ⟨by rw [HV.out.1, HV.out.2]; rfl, bel1 (bel1 (bel1 (Below.refl _ _) _) _) _⟩
set_option maxRecDepth 100000 in
set_option maxHeartbeats 3200000 in
theorem rpnext4 {w : World} {p : Pl} {a1 a2 : Option Addr} {c1 c2 : Nat} (hk : p.kind = 4) (ho : Sdl.SOk p.period p.slots) (h1 : PRow w a1 p.bands.length c1 p.bands) (h2 : PRow w a2 p.slots.length c2 p.slots) (s e : Int) (h : Bool) (c u t : Int) :
    Calls Try.prog 12 #[plV p a1 a2 c1 c2, stV s e h, .int .i64 c, .int .i64 u, .int .i64 t] w fun r w' =>
      r = .returned (.tuple #[staV (carry p (s, e, h) u), .int .i64 (many p (s, e, h) c u t)]) ∧ Below w.heap.size w w' := by
  have HV : Hid (carry p (s, e, h) u = (s, e, h) ∧ many p (s, e, h) c u t = rep (Sdl.swn p.slots (Sdl.tod p.period t))) := ⟨carry_else (by rw [hk]; decide) _ _, many_slots hk _ _ _ _⟩
  obtain ⟨x, hx⟩ : ∃ x, x = ((w.alloc (.cells #[.int .i64 4, .int .i64 p.target, .slice a1 p.bands.length c1, .int .i64 p.kp, .int .i64 p.ki, .int .i64 p.kd, .int .i64 p.period, .slice a2 p.slots.length c2] 25)).alloc (.cells #[.int .i64 s, .int .i64 e, .bool h] 27)).alloc (.cells #[.int .i64 0, .int .i64 0, .bool false] 27) := ⟨_, rfl⟩
  have hB : Below w.heap.size w x := by rw [hx]; exact bel1 (bel1 (bel1 (Below.refl _ _) _) _) _
  have H1 := Lib.hid (h1.on hB)
  have H2 := Lib.hid (h2.on hB)
  have HX := Lib.hid hx
  clear hB hx h1 h2
  have HO := Lib.hid ho
  clear ho
  have e1 : min (max c 0) 1000 = rep c := by unfold rep; omega
  have hc := rep_le c
  generalize rep c = C at *
  have hw : IntKind.i64.wrap C = C := by rw [IntKind.wrap_i64]; omega
  clear hc
  unfold plV stV
  go_enter Try.func12, Try.ntmps12
  go_wp2_with fail
  rw [← HX.out]
  refine (sdrwant_any H2.out HO.out.p1 HO.out.p2 t).mono ?_
  rintro r w9 ⟨rfl, h9⟩
  obtain rfl := h9.symm
  rw [HX.out]
  have h0 := HO.out.many t
  have e2 : min (max (Sdl.swn p.slots (Sdl.tod p.period t)) 0) 1000 = rep (Sdl.swn p.slots (Sdl.tod p.period t)) := by unfold rep; omega
  have HV := HV
  clear HX H1 H2
  generalize Sdl.swn p.slots (Sdl.tod p.period t) = n at *
  go_wp2
  refine bodyPost_ret (results_row_tmp1 rfl _ _ (w.heap.size + 1 + 1) _ _ _ _ rfl (al3 _ _ _ _) Try.underlying27 (by rfl) (by kernel_rfl)) (by rfl) ?_
  exact ⟨by rw [HV.out.1, HV.out.2]; rfl, bel1 (bel1 (bel1 (Below.refl _ _) _) _) _⟩
set_option maxRecDepth 100000 in
set_option maxHeartbeats 3200000 in
theorem rpnext3 {w : World} {p : Pl} {a1 a2 : Option Addr} {c1 c2 : Nat} (hk : p.kind = 3) (h1 : PRow w a1 p.bands.length c1 p.bands) (h2 : PRow w a2 p.slots.length c2 p.slots) (s e : Int) (h : Bool) (c u t : Int) :
    Calls Try.prog 12 #[plV p a1 a2 c1 c2, stV s e h, .int .i64 c, .int .i64 u, .int .i64 t] w fun r w' =>
      r = .returned (.tuple #[staV (carry p (s, e, h) u), .int .i64 (many p (s, e, h) c u t)]) ∧ Below w.heap.size w w' := by
  obtain ⟨x, hx⟩ : ∃ x, x = ((w.alloc (.cells #[.int .i64 3, .int .i64 p.target, .slice a1 p.bands.length c1, .int .i64 p.kp, .int .i64 p.ki, .int .i64 p.kd, .int .i64 p.period, .slice a2 p.slots.length c2] 25)).alloc (.cells #[.int .i64 s, .int .i64 e, .bool h] 27)).alloc (.cells #[.int .i64 0, .int .i64 0, .bool false] 27) := ⟨_, rfl⟩
  have hB : Below w.heap.size w x := by rw [hx]; exact bel1 (bel1 (bel1 (Below.refl _ _) _) _) _
  have HZ : Hid (StAt x (w.heap.size + 1 + 1) 0 0 false) := by show StAt _ _ _ _ _; rw [hx]; exact al3 _ _ _ _
  have HX := Lib.hid hx
  have HB := Lib.hid hB
  clear hB hx h1 h2
  have HV := Lib.hid (And.intro (carry_pid hk (s, e, h) u) (many_pid hk (s, e, h) c u t))
  have HR := Lib.hid (fun y => rnext_any (.int .i64 3) (.slice a1 p.bands.length c1) (.int .i64 p.period) (.slice a2 p.slots.length c2) p.target p.kp p.ki p.kd s e h u y)
  have hW := Pd.wnt_le p.kp p.ki p.kd (pdE p u) (pdS p (s, e, h) u) (Pd.chg h (pdE p u) e)
  have hP : pdE p u = Fx.sub u p.target ∧ pdS p (s, e, h) u = Fx.add s (Fx.sub u p.target) := ⟨rfl, rfl⟩
  rw [← hP.2, ← hP.1] at HR
  simp only at HV
  clear hP
  generalize hq : Pd.wnt p.kp p.ki p.kd (pdE p u) (pdS p (s, e, h) u) (Pd.chg h (pdE p u) e) = n at *
  clear hq
  generalize pdS p (s, e, h) u = S3 at *
  generalize pdE p u = E3 at *
  have e1 : min (max c 0) 1000 = rep c := by unfold rep; omega
  have hc := rep_le c
  generalize rep c = C at *
  have hw : IntKind.i64.wrap C = C := by rw [IntKind.wrap_i64]; omega
  have hw3 : IntKind.i64.wrap (C + n) = C + n := by rw [IntKind.wrap_i64]; omega
  have e2 : min (max (C + n) 0) 1000 = rep (C + n) := by unfold rep; omega
  clear hc hW
  unfold plV stV
  go_enter Try.func12, Try.ntmps12
  go_wp2_with fail
  rw [← HX.out]
  refine (HR.out _).mono ?_
  rintro r w9 ⟨rfl, b9⟩
  unfold stV
  have HB9 := Lib.hid (bel2 HB.out b9)
  have HZ9 := Lib.hid (HZ.out.on b9)
  clear HX HB HZ HR b9
  have HZ10 := Lib.hid (HZ9.out.on ((Below.refl w9.heap.size w9).alloc (Nat.le_refl _) (.cells #[.int .i64 S3, .int .i64 E3, .bool true] 27)))
  have HB10 := Lib.hid (bel1 HB9.out (.cells #[.int .i64 S3, .int .i64 E3, .bool true] 27))
  go_wp2_with (first
    | (refine wpList_store_mid (by rfl) 27 (.tmp 10) (.tmp 45) (by rfl) (w.heap.size + 1 + 1) 0 #[.int .i64 S3, .int .i64 E3, .bool true] (by rfl) (by rfl) (there_of_block HZ10.out (by simp)) (by kernel_rfl) (by kernel_rfl) ?_)
    | fail)
  have hz := heap_setCells_whole (cs := [Value.int .i64 0, .int .i64 0, .bool false]) (#[.int .i64 S3, .int .i64 E3, .bool true] : Array Value).toList rfl HZ10.out
  refine bodyPost_ret (results_row_tmp1 rfl _ _ (w.heap.size + 1 + 1) _ _ _ _ rfl hz Try.underlying27 (by rfl) (by kernel_rfl)) (by rfl) ?_
  exact ⟨by rw [HV.out.1, HV.out.2]; rfl, below_setCells' (w.heap.size + 1 + 1) (by omega) _ 0 HB10.out⟩
theorem rpnext_any {w : World} {p : Pl} {a1 a2 : Option Addr} {c1 c2 : Nat} (hok : okP p = true) (h1 : PRow w a1 p.bands.length c1 p.bands) (h2 : PRow w a2 p.slots.length c2 p.slots) (s e : Int) (h : Bool) (c u t : Int) :
    Calls Try.prog 12 #[plV p a1 a2 c1 c2, stV s e h, .int .i64 c, .int .i64 u, .int .i64 t] w fun r w' =>
      r = .returned (.tuple #[staV (carry p (s, e, h) u), .int .i64 (many p (s, e, h) c u t)]) ∧ Below w.heap.size w w' := by
  cases okP_ hok with
  | none hk => exact rpnext0 hk h1 h2 s e h c u t
  | track hk => exact rpnext1 hk h1 h2 s e h c u t
  | step hk hu hd hl => exact rpnext2 hk hd h1 h2 s e h c u t
  | pid hk => exact rpnext3 hk h1 h2 s e h c u t
  | slots hk ho => exact rpnext4 hk ho h1 h2 s e h c u t
end Go.Proofs.Ytpgjjdpblilljaa

/- Policy: what the program's kinds do, as functions in a map. -/
import Derived.Test.YtpgjjdpblilljaaPoB
import Derived.Laws.EntriesVeiled
import Derived.Deep.CutRange
import Derived.Carry
namespace Go.Proofs.Ytpgjjdpblilljaa
set_option linter.unusedSimpArgs false
set_option linter.unusedVariables false
open Go.RowKit
open Evn Plc
attribute [local go_sem] Oper.semAt_some

theorem pbounded_any (n : Int) (w : World) :
    Calls Try.prog 21 #[.int .i64 n] w fun e w' => e = .returned (.int .i64 (rep n)) ∧ w = w' := by
  have h : Hid (rep n = max 0 (min n 1000)) := rfl
  go_enter Try.func21, Try.ntmps21
  go_wp2
  go_ret
  exact ⟨by rw [h.out]; rfl, rfl⟩
/-- A box of a policy. -/
def PBx (w : World) (g : Nat) (p : Pl) (a1 a2 : Option Addr) (c1 c2 : Nat) : Prop :=
  w.heap[g]? = some (.cells #[.int .i64 p.kind, .int .i64 p.target, .slice a1 p.bands.length c1, .int .i64 p.kp, .int .i64 p.ki, .int .i64 p.kd, .int .i64 p.period, .slice a2 p.slots.length c2] 25 (0, 0))
theorem PBx.on {w x : World} {g : Nat} {p : Pl} {a1 a2 : Option Addr} {c1 c2 : Nat} (k : PBx w g p a1 a2 c1 c2) (hb : Below w.heap.size w x) : PBx x g p a1 a2 c1 c2 := (hb.block g (lt_of_heap k)).trans k
theorem al2 (w : World) (a b : Obj) : ((w.alloc a).alloc b).heap[w.heap.size + 1]? = some b := by
  have e : w.heap.size + 1 = (w.alloc a).heap.size := by simp
  rw [e]
  exact heap_alloc_new _ _
theorem k1_any (s e : Int) (h : Bool) (w : World) :
    Calls Try.prog 35 #[stV s e h] w fun r w' => r = .returned (.tuple #[stV s e h, .int .i64 0]) ∧ Below w.heap.size w w' := by
  unfold stV
  go_enter Try.func35, Try.ntmps35
  go_wp2
  refine bodyPost_ret (results_row_tmp1 rfl _ _ (w.heap.size + 1) _ _ _ _ rfl (al2 _ _ _) Try.underlying27 (by rfl) (by kernel_rfl)) (by rfl) ?_
  exact ⟨rfl, bel1 (bel1 (Below.refl _ _) _) _⟩
theorem k2_any (gp gc gu : Nat) (t c u : Int) (w : World) (h1 : w.cell? ⟨gp, 1, none⟩ = some (.int .i64 t)) (h2 : w.cell? ⟨gc, 0, none⟩ = some (.int .i64 c)) (h3 : w.cell? ⟨gu, 0, none⟩ = some (.int .i64 u)) :
    Calls Try.prog 36 #[.pointer (some ⟨gp, 0, none⟩), .pointer (some ⟨gc, 0, none⟩), .pointer (some ⟨gu, 0, none⟩)] w fun r w' => r = .returned (.int .i64 (Tk.wt t c u)) ∧ Below w.heap.size w w' := by
  go_enter Try.func36, Try.ntmps36
  go_wp2_with fail
  refine (tkwant_any t c u _).mono ?_
  rintro e w1 ⟨rfl, b1⟩
  have B1 := Lib.hid b1
  clear b1
  go_wp2
  go_ret
  exact ⟨rfl, B1.out⟩
theorem k3_any {gp gc gu : Nat} {c u : Int} {w : World} {a : Option Addr} {n k : Nat} {l : List (Int × Int)} (h : PRow w a n k l) (hu : Stp.Up l) (hn : n ≤ 1000000) (hd : Del l)
    (h1 : w.cell? ⟨gp, 2, none⟩ = some (.slice a n k)) (h2 : w.cell? ⟨gc, 0, none⟩ = some (.int .i64 c)) (h3 : w.cell? ⟨gu, 0, none⟩ = some (.int .i64 u)) :
    Calls Try.prog 38 #[.pointer (some ⟨gp, 0, none⟩), .pointer (some ⟨gc, 0, none⟩), .pointer (some ⟨gu, 0, none⟩)] w fun r w' => r = .returned (.int .i64 (Stp.wnt l c u)) ∧ Below w.heap.size w w' := by
  have H := Lib.hid (stwant_any h hu hn hd c u)
  clear h hu hn hd
  go_enter Try.func38, Try.ntmps38
  go_wp2_with fail
  refine H.out.mono ?_
  rintro e w1 ⟨rfl, b1⟩
  have B1 := Lib.hid b1
  clear b1 H
  go_wp2
  go_ret
  exact ⟨rfl, B1.out⟩
theorem k5_any (gc : Nat) (c : Int) (w : World) (h2 : w.cell? ⟨gc, 0, none⟩ = some (.int .i64 c)) :
    Calls Try.prog 42 #[.pointer (some ⟨gc, 0, none⟩)] w fun r w' => r = .returned (.int .i64 c) ∧ Below w.heap.size w w' := by
  go_enter Try.func42, Try.ntmps42
  go_wp2
  go_ret
  exact ⟨rfl, Below.refl _ _⟩
theorem k6_any {gp gt : Nat} {t : Int} {w : World} {a : Option Addr} {n k : Nat} {l : List (Int × Int)} (h : PRow w a n k l) (hn : n ≤ 100000) {p : Int} (hp : 1 ≤ p) (hp2 : p ≤ 1099511627776)
    (h1 : w.cell? ⟨gp, 6, none⟩ = some (.int .i64 p)) (h2 : w.cell? ⟨gp, 7, none⟩ = some (.slice a n k)) (h3 : w.cell? ⟨gt, 0, none⟩ = some (.int .i64 t)) :
    Calls Try.prog 43 #[.pointer (some ⟨gp, 0, none⟩), .pointer (some ⟨gt, 0, none⟩)] w fun r w' => r = .returned (.int .i64 (Sdl.swn l (Sdl.tod p t))) ∧ Below w.heap.size w w' := by
  have H := Lib.hid (sdwant_any h hn hp hp2 t)
  clear h hn hp hp2
  go_enter Try.func43, Try.ntmps43
  go_wp2_with fail
  refine H.out.mono ?_
  rintro e w1 ⟨rfl, b1⟩
  have B1 := Lib.hid b1
  clear b1 H
  go_wp2
  go_ret
  exact ⟨rfl, B1.out⟩
theorem k4_any {gp gu : Nat} {p : Pl} {a1 a2 : Option Addr} {c1 c2 : Nat} {u : Int} {w : World} (h : PBx w gp p a1 a2 c1 c2) (h3 : w.cell? ⟨gu, 0, none⟩ = some (.int .i64 u)) (s e : Int) (b : Bool) :
    Calls Try.prog 40 #[stV s e b, .pointer (some ⟨gp, 0, none⟩), .pointer (some ⟨gu, 0, none⟩)] w fun r w' =>
      r = .returned (.tuple #[stV (pdS p (s, e, b) u) (pdE p u) true, .int .i64 (Pd.wnt p.kp p.ki p.kd (pdE p u) (pdS p (s, e, b) u) (Pd.chg b (pdE p u) e))]) ∧ Below w.heap.size w w' := by
  have H := Lib.hid (fun x => next_any (.int .i64 p.kind) (.slice a1 p.bands.length c1) (.int .i64 p.period) (.slice a2 p.slots.length c2) p.target p.kp p.ki p.kd s e b u x)
  unfold stV
  unfold PBx at h
  obtain ⟨x, hx⟩ : ∃ x, x = (w.alloc (.cells #[.int .i64 s, .int .i64 e, .bool b] 27)).alloc (.cells #[.int .i64 0, .int .i64 0, .bool false] 27) := ⟨_, rfl⟩
  have hB : Below w.heap.size w x := by rw [hx]; exact bel1 (bel1 (Below.refl _ _) _) _
  have HP := Lib.hid (PBx.on h hB)
  have HU := Lib.hid ((hB.cell (p := ⟨gu, 0, none⟩) (block_lt_of_cell h3)).trans h3)
  have HS : Hid (x.heap[w.heap.size]? = some (.cells #[.int .i64 s, .int .i64 e, .bool b] 27 (0, 0))) := by
    show _ = _
    rw [hx, heap_alloc_old _ _ (by simp)]
    exact heap_alloc_new _ _
  have HZ : Hid (x.heap[w.heap.size + 1]? = some (.cells #[.int .i64 0, .int .i64 0, .bool false] 27 (0, 0))) := by
    show _ = _
    rw [hx]
    exact al2 _ _ _
  have HB := Lib.hid hB
  have HX := Lib.hid hx
  clear hB hx h h3
  go_enter Try.func40, Try.ntmps40
  go_upto_region 1 with fail
  rw [← HX.out]
  have hU := HU.out
  have hS0 := (cell_of_row _ _ 0 _ _ _ HS.out).trans rfl
  have hS1 := (cell_of_row _ _ 1 _ _ _ HS.out).trans rfl
  have hS2 := (cell_of_row _ _ 2 _ _ _ HS.out).trans rfl
  clear HX
  go_wp2_with (first
    | (refine wpList_load_row (by rfl) 25 (.tmp 1) (by rfl) gp (by rfl) 25 _ (0, 0) _ HP.out Try.underlying25 (by rfl) (by kernel_rfl) ?_)
    | (refine wpList_load_row (by rfl) 27 (.tmp 3) (by rfl) w.heap.size (by rfl) 27 _ (0, 0) _ HS.out Try.underlying27 (by rfl) (by kernel_rfl) ?_)
    | fail)
  refine (H.out _).mono ?_
  rintro r w1 ⟨rfl, b1⟩
  have HZ1 := Lib.hid ((b1.block _ (lt_of_heap HZ.out)).trans HZ.out)
  have B1 := Lib.hid (bel2 HB.out b1)
  clear HZ HB b1 HP HS HU hU hS0 hS1 hS2 H
  go_wp2_with (first
    | (refine wpList_store_mid (by rfl) 27 (.tmp 4) (.tmp 10) (by rfl) (w.heap.size + 1) 0 _ (by rfl) (by rfl) (there_of_block HZ1.out (by simp)) (by kernel_rfl) (by kernel_rfl) ?_)
    | fail)
  have hz := heap_setCells_whole (cs := [Value.int .i64 0, .int .i64 0, .bool false]) [Value.int .i64 (pdS p (s, e, b) u), .int .i64 (pdE p u), .bool true] rfl HZ1.out
  refine bodyPost_ret (results_row_tmp1 rfl _ _ (w.heap.size + 1) _ _ _ _ rfl hz Try.underlying27 (by rfl) (by kernel_rfl)) (by rfl) ?_
  exact ⟨rfl, below_setCells' _ (by omega) _ _ B1.out⟩
end Go.Proofs.Ytpgjjdpblilljaa

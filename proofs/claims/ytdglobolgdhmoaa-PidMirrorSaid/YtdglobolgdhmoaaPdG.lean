/- What PidMirror keeps: a policy, two states the other way round. -/
import Derived.Test.YtdglobolgdhmoaaPdF
namespace Go.Proofs.Ytdglobolgdhmoaa
set_option linter.unusedSimpArgs false
set_option linter.unusedVariables false
open Go.RowKit
open Fx Pd

theorem sub_plus {E : Int} (h1 : -100000000 < E) (h2 : E < 100000000) : sub (500 + E) 500 = E := by
  unfold sub
  rw [sat_id (n := 500) (by decide) (by decide), sat_id (n := 500 + E) (by omega) (by omega), sat_id (by omega) (by omega)]
  omega
theorem sub_minus {E : Int} (h1 : -100000000 < E) (h2 : E < 100000000) : sub (500 - E) 500 = -E := by
  unfold sub
  rw [sat_id (n := 500) (by decide) (by decide), sat_id (n := 500 - E) (by omega) (by omega), sat_id (by omega) (by omega)]
  omega
structure NM (w x : World) (P : Array Value) (s p : Int) (h : Bool) : Prop where
  bel : Below w.heap.size w x
  pol : PolAt x w.heap.size P
  one : StAt x (w.heap.size + 1) s p h
  two : StAt x (w.heap.size + 1 + 1) (-s) (-p) h
theorem NM.on {w x y : World} {P : Array Value} {s p : Int} {h : Bool} (k : NM w x P s p h) (hb : Below x.heap.size x y) : NM w y P s p h :=
  ⟨k.bel.trans (hb.mono (Nat.le_of_lt (lt_of_heap k.pol))), k.pol.on hb, k.one.on hb, k.two.on hb⟩
theorem NM.new (w : World) (P : Array Value) : NM w (((w.alloc (.cells P 30)).alloc (.cells #[.int .i64 0, .int .i64 0, .bool false] 23)).alloc (.cells #[.int .i64 0, .int .i64 0, .bool false] 23)) P 0 0 false := by
  obtain ⟨a, ha⟩ : ∃ a, a = w.alloc (.cells P 30) := ⟨_, rfl⟩
  obtain ⟨b, hb⟩ : ∃ b, b = a.alloc (.cells #[.int .i64 0, .int .i64 0, .bool false] 23) := ⟨_, rfl⟩
  obtain ⟨c, hc⟩ : ∃ c, c = b.alloc (.cells #[.int .i64 0, .int .i64 0, .bool false] 23) := ⟨_, rfl⟩
  have sa : a.heap.size = w.heap.size + 1 := by rw [ha]; simp
  have sb : b.heap.size = w.heap.size + 1 + 1 := by rw [hb]; simp [sa]
  have ba : Below w.heap.size w a := by rw [ha]; exact (Below.refl _ _).alloc (Nat.le_refl _) _
  have bb : Below a.heap.size a b := by rw [hb]; exact (Below.refl _ _).alloc (Nat.le_refl _) _
  have bc : Below b.heap.size b c := by rw [hc]; exact (Below.refl _ _).alloc (Nat.le_refl _) _
  rw [← ha, ← hb, ← hc]
  have k0 : PolAt a w.heap.size P := by rw [ha]; exact heap_alloc_new _ _
  have k1 : StAt b (w.heap.size + 1) 0 0 false := by rw [← sa, hb]; exact heap_alloc_new _ _
  have k2 : StAt c (w.heap.size + 1 + 1) 0 0 false := by rw [← sb, hc]; exact heap_alloc_new _ _
  exact ⟨(ba.trans (bb.mono (by omega))).trans (bc.mono (by omega)), (k0.on bb).on bc, k1.on bc, k2⟩
theorem NM.set {w x : World} {P : Array Value} {s p : Int} {h : Bool} (k : NM w x P s p h) (s2 p2 s3 p3 : Int) (h2 : Bool) (e1 : s3 = -s2) (e2 : p3 = -p2) :
    NM w ((x.setCells (w.heap.size + 1) 0 [.int .i64 s2, .int .i64 p2, .bool h2]).setCells (w.heap.size + 1 + 1) 0 [.int .i64 s3, .int .i64 p3, .bool h2]) P s2 p2 h2 := by
  subst e1 e2
  refine ⟨below_setCells' _ (by omega) _ _ (below_setCells' _ (by omega) _ _ k.bel), (k.pol.far (by omega) _).far (by omega) _, (StAt.set k.one s2 p2 h2).set_other (by omega) _, StAt.set (k.two.set_other (by omega) _) (-s2) (-p2) h2⟩
theorem NM.c {w x y : World} {k b pe sl : Value} {t kp ki kd s p : Int} {h : Bool} (m : NM w x #[k, .int .i64 t, b, .int .i64 kp, .int .i64 ki, .int .i64 kd, pe, sl] s p h) (hb : Below x.heap.size x y) :
    y.cell? ⟨w.heap.size, 0, none⟩ = some k ∧ y.cell? ⟨w.heap.size, 1, none⟩ = some (.int .i64 t) ∧ y.cell? ⟨w.heap.size, 2, none⟩ = some b ∧ y.cell? ⟨w.heap.size, 3, none⟩ = some (.int .i64 kp) ∧ y.cell? ⟨w.heap.size, 4, none⟩ = some (.int .i64 ki) ∧ y.cell? ⟨w.heap.size, 5, none⟩ = some (.int .i64 kd) ∧ y.cell? ⟨w.heap.size, 6, none⟩ = some pe ∧ y.cell? ⟨w.heap.size, 7, none⟩ = some sl ∧
      y.cell? ⟨w.heap.size + 1, 0, none⟩ = some (.int .i64 s) ∧ y.cell? ⟨w.heap.size + 1, 1, none⟩ = some (.int .i64 p) ∧ y.cell? ⟨w.heap.size + 1, 2, none⟩ = some (.bool h) ∧
      y.cell? ⟨w.heap.size + 1 + 1, 0, none⟩ = some (.int .i64 (-s)) ∧ y.cell? ⟨w.heap.size + 1 + 1, 1, none⟩ = some (.int .i64 (-p)) ∧ y.cell? ⟨w.heap.size + 1 + 1, 2, none⟩ = some (.bool h) ∧ True := by
  have n := m.on hb
  have q := cell_of_row _ _ 0 _ _ _ n.pol
  exact ⟨(cell_of_row _ _ _ _ _ _ n.pol).trans rfl, (cell_of_row _ _ _ _ _ _ n.pol).trans rfl, (cell_of_row _ _ _ _ _ _ n.pol).trans rfl, (cell_of_row _ _ _ _ _ _ n.pol).trans rfl, (cell_of_row _ _ _ _ _ _ n.pol).trans rfl, (cell_of_row _ _ _ _ _ _ n.pol).trans rfl, (cell_of_row _ _ _ _ _ _ n.pol).trans rfl, (cell_of_row _ _ _ _ _ _ n.pol).trans rfl,
    (cell_of_row _ _ _ _ _ _ n.one).trans rfl, (cell_of_row _ _ _ _ _ _ n.one).trans rfl, (cell_of_row _ _ _ _ _ _ n.one).trans rfl, (cell_of_row _ _ _ _ _ _ n.two).trans rfl, (cell_of_row _ _ _ _ _ _ n.two).trans rfl, (cell_of_row _ _ _ _ _ _ n.two).trans rfl, trivial⟩
end Go.Proofs.Ytdglobolgdhmoaa

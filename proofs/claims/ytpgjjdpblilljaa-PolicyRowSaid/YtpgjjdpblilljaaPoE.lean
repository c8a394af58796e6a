/- Contract of policy.Next: helpers. -/
import Derived.Test.YtpgjjdpblilljaaPoD
import Derived.Test.YtpgjjdpblilljaaHeld
import Derived.Test.YtpgjjdpblilljaaTake
namespace Go.Proofs.Ytpgjjdpblilljaa
set_option linter.unusedSimpArgs false
set_option linter.unusedVariables false
open Go.RowKit
open Evn Plc
attribute [local go_sem] Oper.semAt_some

theorem _root_.Go.Proofs.Ytpgjjdpblilljaa.Sdl.SOk.many {p : Int} {l : List (Int × Int)} (h : Sdl.SOk p l) (t : Int) : 0 ≤ Sdl.swn l (Sdl.tod p t) ∧ Sdl.swn l (Sdl.tod p t) ≤ 1000 := by
  have h0 := Sdl.tod_in h.p1 t
  obtain ⟨k, hk, e⟩ := Sdl.swn_some h.pos (by rw [h.at0]; exact h0.1)
  rw [e]
  have := h.in_ k hk
  omega
theorem many_track {p : Pl} (h : p.kind = 1) (z : Sta) (c u t : Int) : many p z c u t = rep (Tk.wt p.target (rep c) u) := by unfold many own; rw [if_pos h]
theorem many_step {p : Pl} (h : p.kind = 2) (z : Sta) (c u t : Int) : many p z c u t = rep (Stp.wnt p.bands (rep c) u) := by unfold many own; rw [if_neg (by omega), if_pos h]
theorem many_pid {p : Pl} (h : p.kind = 3) (z : Sta) (c u t : Int) : many p z c u t = rep (rep c + Pd.wnt p.kp p.ki p.kd (pdE p u) (pdS p z u) (Pd.chg z.2.2 (pdE p u) z.2.1)) := by unfold many own; rw [if_neg (by omega), if_neg (by omega), if_pos h]
theorem many_slots {p : Pl} (h : p.kind = 4) (z : Sta) (c u t : Int) : many p z c u t = rep (Sdl.swn p.slots (Sdl.tod p.period t)) := by unfold many own; rw [if_neg (by omega), if_neg (by omega), if_neg (by omega), if_pos h]
theorem carry_pid {p : Pl} (h : p.kind = 3) (z : Sta) (u : Int) : carry p z u = (pdS p z u, pdE p u, true) := by unfold carry; rw [if_pos h]
/-- A state as a value. -/
def staV (z : Sta) : Value := stV z.1 z.2.1 z.2.2
theorem exec_row {P : Program} {o : Oper} {ρ : Operand → Value} {w : World} (ty : TypeId) (x : Operand) (ho : o.op = .load ty x)
    (g : Nat) (hx : ρ x = .pointer (some ⟨g, 0, none⟩)) (t : TypeId) (cs : Array Value) (fr : Nat × Nat) (d : TypeDesc) (hg : w.heap[g]? = some (.cells cs t fr))
    (hu : P.underlying ty = some d) (hd : (match d with | .struct _ | .array _ _ => true | _ => false) = true) (hi : (P.info? ty).map (·.size) = some cs.size) :
    (execOp ρ o).run P w = .ok (.value (.agg cs)) w := by
  unfold execOp
  simp only [ho, hx, Instr.loadAt, Instr.sureAddr, Sem.run_bind, Sem.run_pure, Result.andThen_ok, run_loadVar_row w g t ty cs fr d hg hu hd hi]
theorem exec_look {P : Program} {o : Oper} {ρ : Operand → Value} {w : World} {ty : TypeId} {x k : Operand} {r : Nat} {n : Int} {v : Value} (ho : o.op = .lookup ty x k true)
    (hx : ρ x = .map (some r)) (hk : ρ k = .int .i64 n) (h : (Instr.lookup ty (.map (some r)) (.int .i64 n) true).run P w = .ok v w) :
    (execOp ρ o).run P w = .ok (.value v) w := by
  unfold execOp
  simp only [ho, hx, hk, Sem.run_bind, Sem.run_pure, Result.andThen_ok, h]
theorem KX.base {v w x : World} {g : Nat} {p : Pl} {a1 a2 : Option Addr} {c1 c2 : Nat} {c u t : Int} (h : KX w x g p a1 a2 c1 c2 c u t) (hb : Below v.heap.size v w) : KX v x g p a1 a2 c1 c2 c u t :=
  ⟨bel2 hb h.bel, Nat.le_trans hb.size h.le, h.bp, h.bc, h.bu, h.bt, h.mp⟩
theorem kx_far (g q : Nat) (h : g ≠ q) : ∀ (vs : List Value) (o : Nat) (w : World), (w.setCells q o vs).heap[g]? = w.heap[g]?
  | [], _, _ => rfl
  | v :: vs, o, w => by
    show ((w.setCell ⟨q, o, none⟩ v).setCells q (o + 1) vs).heap[g]? = _
    rw [kx_far g q h vs (o + 1) _]
    exact Below.heap_setCell w ⟨q, o, none⟩ v g h
theorem KX.put {w x : World} {g q : Nat} {p : Pl} {a1 a2 : Option Addr} {c1 c2 : Nat} {c u t : Int} (h : KX w x g p a1 a2 c1 c2 c u t) (hq : w.heap.size ≤ q) (hne : q < g ∨ g + 1 + 1 + 1 + 1 < q) (vs : List Value) :
    KX w (x.setCells q 0 vs) g p a1 a2 c1 c2 c u t :=
  ⟨below_setCells' _ hq _ _ h.bel, h.le, (kx_far g q (by omega) vs 0 x).trans h.bp, (World.cell?_of_block (w := x) (a := ⟨g + 1, 0, none⟩) (kx_far (g + 1) q (by omega) vs 0 x)).trans h.bc,
   (World.cell?_of_block (w := x) (a := ⟨g + 1 + 1, 0, none⟩) (kx_far (g + 1 + 1) q (by omega) vs 0 x)).trans h.bu, (World.cell?_of_block (w := x) (a := ⟨g + 1 + 1 + 1, 0, none⟩) (kx_far (g + 1 + 1 + 1) q (by omega) vs 0 x)).trans h.bt,
   (kx_far (g + 1 + 1 + 1 + 1) q (by omega) vs 0 x).trans h.mp⟩
theorem NB.new (w : World) (p : Pl) (a1 a2 : Option Addr) (c1 c2 : Nat) (s e : Int) (h : Bool) :
    Below w.heap.size w (((w.alloc (.cells #[.int .i64 p.kind, .int .i64 p.target, .slice a1 p.bands.length c1, .int .i64 p.kp, .int .i64 p.ki, .int .i64 p.kd, .int .i64 p.period, .slice a2 p.slots.length c2] 25)).alloc (.cells #[.int .i64 s, .int .i64 e, .bool h] 27)).alloc (.cells #[.int .i64 0, .int .i64 0, .bool false] 27)) ∧
    PBx (((w.alloc (.cells #[.int .i64 p.kind, .int .i64 p.target, .slice a1 p.bands.length c1, .int .i64 p.kp, .int .i64 p.ki, .int .i64 p.kd, .int .i64 p.period, .slice a2 p.slots.length c2] 25)).alloc (.cells #[.int .i64 s, .int .i64 e, .bool h] 27)).alloc (.cells #[.int .i64 0, .int .i64 0, .bool false] 27)) w.heap.size p a1 a2 c1 c2 ∧
    StAt (((w.alloc (.cells #[.int .i64 p.kind, .int .i64 p.target, .slice a1 p.bands.length c1, .int .i64 p.kp, .int .i64 p.ki, .int .i64 p.kd, .int .i64 p.period, .slice a2 p.slots.length c2] 25)).alloc (.cells #[.int .i64 s, .int .i64 e, .bool h] 27)).alloc (.cells #[.int .i64 0, .int .i64 0, .bool false] 27)) (w.heap.size + 1) s e h ∧
    StAt (((w.alloc (.cells #[.int .i64 p.kind, .int .i64 p.target, .slice a1 p.bands.length c1, .int .i64 p.kp, .int .i64 p.ki, .int .i64 p.kd, .int .i64 p.period, .slice a2 p.slots.length c2] 25)).alloc (.cells #[.int .i64 s, .int .i64 e, .bool h] 27)).alloc (.cells #[.int .i64 0, .int .i64 0, .bool false] 27)) (w.heap.size + 1 + 1) 0 0 false := by
  obtain ⟨a, ha⟩ : ∃ a, a = w.alloc (.cells #[.int .i64 p.kind, .int .i64 p.target, .slice a1 p.bands.length c1, .int .i64 p.kp, .int .i64 p.ki, .int .i64 p.kd, .int .i64 p.period, .slice a2 p.slots.length c2] 25) := ⟨_, rfl⟩
  obtain ⟨b, hb⟩ : ∃ b, b = a.alloc (.cells #[.int .i64 s, .int .i64 e, .bool h] 27) := ⟨_, rfl⟩
  obtain ⟨d, hd⟩ : ∃ d, d = b.alloc (.cells #[.int .i64 0, .int .i64 0, .bool false] 27) := ⟨_, rfl⟩
  rw [← ha, ← hb, ← hd]
  have sa : a.heap.size = w.heap.size + 1 := by rw [ha]; simp
  have sb : b.heap.size = w.heap.size + 1 + 1 := by rw [hb]; simp [sa]
  have ba : Below w.heap.size w a := by rw [ha]; exact (Below.refl _ _).alloc (Nat.le_refl _) _
  have bb : Below a.heap.size a b := by rw [hb]; exact (Below.refl _ _).alloc (Nat.le_refl _) _
  have bd : Below b.heap.size b d := by rw [hd]; exact (Below.refl _ _).alloc (Nat.le_refl _) _
  have k0 : PBx a w.heap.size p a1 a2 c1 c2 := by rw [ha]; exact heap_alloc_new _ _
  have k1 : StAt b (w.heap.size + 1) s e h := by rw [hb, ← sa]; exact heap_alloc_new _ _
  have k2 : StAt d (w.heap.size + 1 + 1) 0 0 false := by rw [hd, ← sb]; exact heap_alloc_new _ _
  exact ⟨bel2 ba (bel2 bb bd), k0.on (bel2 bb bd), k1.on bd, k2⟩
end Go.Proofs.Ytpgjjdpblilljaa

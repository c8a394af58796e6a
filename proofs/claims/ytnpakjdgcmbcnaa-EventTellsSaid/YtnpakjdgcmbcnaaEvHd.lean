/- Variables of events; what the head of the statements asks, as mathematics; Great. -/
import Derived.Test.YtnpakjdgcmbcnaaEvMu
import Derived.Test.YtnpakjdgcmbcnaaEvQ
namespace Go.Proofs.Ytnpakjdgcmbcnaa
open Go.RowKit
open Wir Evn
attribute [local go_sem] Oper.semAt_some

/-- A whole row read out of a variable, under a guard that holds. -/
theorem wpList_load_rowG {P : Program} {ops : Array Oper} {rest : List Oper} {o : Oper} {a : Act} {w : World} {Q : Exit → Act → World → Prop} (hgd : Region.wanted o (yielded ops a.tmps) = true) (ty : TypeId) (x : Operand) (ho : o.op = .load ty x)
    (g : Nat) (hx : a.eval x = .pointer (some ⟨g, 0, none⟩)) (t : TypeId) (cs : Array Value) (fr : Nat × Nat) (d : TypeDesc) (hg : w.heap[g]? = some (.cells cs t fr))
    (hu : P.underlying ty = some d) (hd : (match d with | .struct _ | .array _ _ => true | _ => false) = true) (hi : (P.info? ty).map (·.size) = some cs.size)
    (h : wpList P ops Q rest (a.put o.dst (.agg cs)) w) : wpList P ops Q (o :: rest) a w :=
  wpList_step fun _ hK => by rw [if_pos hgd]; exact wp_load_row ty x ho g hx t cs fr d hg hu hd hi (hK _ _ h)
/-- A variable that holds an event. -/
structure EvAt (w : World) (q : Nat) (e : Ev) (a1 a2 a3 : Option Addr) (c1 c2 c3 : Nat) : Prop where
  cells : w.heap[q]? = some (.cells (evC e a1 a2 a3 c1 c2 c3) 30 (0, 0))
  mem : EvM w a1 a2 a3 c1 c2 c3 e
theorem EvAt.on {w w' : World} {q : Nat} {e : Ev} {a1 a2 a3 : Option Addr} {c1 c2 c3 : Nat} (h : EvAt w q e a1 a2 a3 c1 c2 c3) (hb : Below w.heap.size w w') : EvAt w' q e a1 a2 a3 c1 c2 c3 :=
  ⟨(hb.block q (lt_of_heap h.cells)).trans h.cells, h.mem.on hb⟩
theorem there_new (w : World) (cs : Array Value) {T : TypeId} : (w.alloc (.cells cs T)).there w.heap.size 0 cs.size := there_of_block (heap_alloc_new w (.cells cs T)) (Nat.le_refl _)
/-- 'x, f := Get(..)': the variable that is made. -/
theorem new_var {w : World} {a1 a2 a3 : Option Addr} {c1 c2 c3 : Nat} {e : Ev} (h : EvM w a1 a2 a3 c1 c2 c3 e) :
    ∃ w', (w.alloc (.cells #[.int .i64 0, .int .i64 0, .int .i64 0, .int .i64 0, .int .i64 0, .int .i64 0, .int .i64 0, .int .i64 0, .slice none 0 0, .int .i64 0, .int .i64 0, .int .i64 0, .int .i64 0, .slice none 0 0, .int .i64 0, .int .i64 0, .int .i64 0, .int .i64 0, .int .i64 0, .int .i64 0, .int .i64 0, .int .i64 0, .int .i64 0, .int .i64 0, .int .i64 0, .int .i64 0, .slice none 0 0] 30)).setCells w.heap.size 0 (evC e a1 a2 a3 c1 c2 c3).toList = w' ∧ EvAt w' w.heap.size e a1 a2 a3 c1 c2 c3 ∧ Below w.heap.size w w' := by
  have hb : Below w.heap.size w ((w.alloc (.cells #[.int .i64 0, .int .i64 0, .int .i64 0, .int .i64 0, .int .i64 0, .int .i64 0, .int .i64 0, .int .i64 0, .slice none 0 0, .int .i64 0, .int .i64 0, .int .i64 0, .int .i64 0, .slice none 0 0, .int .i64 0, .int .i64 0, .int .i64 0, .int .i64 0, .int .i64 0, .int .i64 0, .int .i64 0, .int .i64 0, .int .i64 0, .int .i64 0, .int .i64 0, .int .i64 0, .slice none 0 0] 30)).setCells w.heap.size 0 (evC e a1 a2 a3 c1 c2 c3).toList) := below_setCells' _ (Nat.le_refl _) _ _ (bel1 (Below.refl _ _) _)
  exact ⟨_, rfl, ⟨store27 (heap_alloc_new w (.cells #[.int .i64 0, .int .i64 0, .int .i64 0, .int .i64 0, .int .i64 0, .int .i64 0, .int .i64 0, .int .i64 0, .slice none 0 0, .int .i64 0, .int .i64 0, .int .i64 0, .int .i64 0, .slice none 0 0, .int .i64 0, .int .i64 0, .int .i64 0, .int .i64 0, .int .i64 0, .int .i64 0, .int .i64 0, .int .i64 0, .int .i64 0, .int .i64 0, .int .i64 0, .int .i64 0, .slice none 0 0] 30)) rfl, h.on hb⟩, hb⟩
/-- A parameter that is boxed. -/
theorem box_var {w : World} {a1 a2 a3 : Option Addr} {c1 c2 c3 : Nat} {e : Ev} (h : EvM w a1 a2 a3 c1 c2 c3 e) :
    EvAt (w.alloc (.cells (evC e a1 a2 a3 c1 c2 c3) 30)) w.heap.size e a1 a2 a3 c1 c2 c3 ∧ Below w.heap.size w (w.alloc (.cells (evC e a1 a2 a3 c1 c2 c3) 30)) :=
  ⟨⟨heap_alloc_new _ _, h.on (bel1 (Below.refl _ _) _)⟩, bel1 (Below.refl _ _) _⟩

def P6 : Pl := ⟨2, 0, [(0, -1), (800, 2)], 0, 0, 0, 0, []⟩
def E1 : Ev := ⟨1, 700, 300, 0, 0, 0, zeroPl, zeroCf, []⟩
def E5 : Ev := ⟨3, 0, 0, 0, 1, 0, ⟨1, 0, [], 0, 0, 0, 0, []⟩, zeroCf, []⟩
def E6 : Ev := ⟨3, 0, 0, 0, 1, 0, P6, zeroCf, []⟩
def E7 : Ev := ⟨3, 0, 0, 0, 0, 0, zeroPl, zeroCf, []⟩
def E8 : Ev := ⟨3, 0, 0, 0, 2, 0, zeroPl, zeroCf, []⟩
def E9 : Ev := ⟨2, 0, 0, -5, 0, 0, zeroPl, zeroCf, []⟩
def EA : Ev := ⟨2, 0, 0, 0, 0, 1, zeroPl, zeroCf, []⟩
def B1 : List Nat := [248, 10, 216, 4]
def B5 : List Nat := [2, 2, 0, 0, 0, 0, 0, 0, 0]
def B8 : List Nat := [4, 0, 0, 0, 0, 0, 0, 0, 0]
def CP : Cf := ⟨1, 20, 4, 3, 100, 1, 50, 4, 2, 1, 3, 1⟩
instance (n : Int) : Decidable (I64 n) := inferInstanceAs (Decidable (_ ∧ _))
theorem all64_of {l : List Int} (h : l.all (fun n => decide (I64 n)) = true) : All64 l := fun x hx => of_decide_eq_true (List.all_eq_true.1 h x hx)
theorem ev64_of {e : Ev} (h : ([e.kind, e.util, e.demand, e.t, e.id, e.n] ++ [e.pol.kind, e.pol.target, e.pol.kp, e.pol.ki, e.pol.kd, e.pol.period] ++ pairs e.pol.bands ++ pairs e.pol.slots ++ confN e.conf).all (fun n => decide (I64 n)) = true) (hb : e.body = []) : Ev64 e := by
  have k := all64_of h
  exact ⟨all_sub k (by simp), all_sub k (by simp), all_sub k (fun x hx => by simp [hx]), all_sub k (fun x hx => by simp [hx]), all_sub k (fun x hx => by simp [hx]), by rw [hb]; intro c hc; cases hc⟩
theorem e1_64 : Ev64 E1 := ev64_of (by decide) rfl
theorem e5_64 : Ev64 E5 := ev64_of (by decide) rfl
theorem e6_64 : Ev64 E6 := ev64_of (by decide) rfl
theorem e7_64 : Ev64 E7 := ev64_of (by decide) rfl
theorem e8_64 : Ev64 E8 := ev64_of (by decide) rfl
theorem e1_r : rightR E1 = true := by kernel_rfl
theorem e5_r : rightR E5 = false := by kernel_rfl
theorem e6_r : rightR E6 = true := by kernel_rfl
theorem e7_r : rightR E7 = false := by kernel_rfl
theorem e8_r : rightR E8 = true := by kernel_rfl
theorem e9_r : rightR E9 = true := by kernel_rfl
theorem ea_r : rightR EA = false := by kernel_rfl
theorem e1_code : code E1 = B1 := by
  show nb [700, 300] = B1
  simp only [nb, List.flatMap_cons, List.flatMap_nil]
  rw [show cnt 700 = 1400 from rfl, show cnt 300 = 600 from rfl, dg_hi (by decide), dg_lo (by decide), dg_hi (c := 600) (by decide), dg_lo (c := 600 / 128) (by decide)]
  rfl
theorem dg0 : dg 0 = [0] := dg_lo (by decide)
theorem e8_code : code E8 = B8 := by
  show nb [2, 0, 0, 0, 0, 0, 0, 0, 0] = B8
  simp only [nb, List.flatMap_cons, List.flatMap_nil]
  rw [show cnt 2 = 4 from rfl, show cnt 0 = 0 from rfl, dg0, dg_lo (c := 4) (by decide)]
  rfl
theorem e5_code : code E5 = B5 := by
  show nb [1, 1, 0, 0, 0, 0, 0, 0, 0] = B5
  simp only [nb, List.flatMap_cons, List.flatMap_nil]
  rw [show cnt 1 = 2 from rfl, show cnt 0 = 0 from rfl, dg0, dg_lo (c := 2) (by decide)]
  rfl
theorem hd_p1 : putR E1 = B1 := by rw [put_right e1_r e1_64, e1_code]
theorem hd_p7 : putR E7 = [] := put_wrong e7_r
theorem hd_p8 : putR E8 = B8 := by rw [put_right e8_r e8_64, e8_code]
theorem hd_p6 : putR E6 = code E6 := put_right e6_r e6_64
theorem hd_g1 : getR 1 B1 = (E1, 0) := by rw [← e1_code]; exact get_put e1_r e1_64
theorem hd_g2 : getR 1 (B1 ++ [0]) = (ofKind 0, 12) := by rw [← e1_code]; exact get_more e1_r e1_64 0
theorem hd_g3 : getR 9 B1 = (ofKind 0, 12) := get_none (by decide) _
theorem hd_g6 : getR 3 (code E6) = (E6, 0) := get_put e6_r e6_64
theorem hd_g5 : getR 3 B5 = (ofKind 0, 12) := by
  have h : Rd ⟨B5, 0, 0⟩ (nb (1 :: polN E5.pol) ++ []) := ⟨rfl, by rw [List.append_nil]; exact e5_code.symm⟩
  rw [nb_cons2] at h
  obtain ⟨a1, h⟩ := h.num ⟨by decide, by decide⟩
  obtain ⟨a2, h⟩ := h.pl ⟨e5_64.pol, e5_64.bands, e5_64.slots, by decide, by decide⟩
  have e1 : getEv 3 ⟨B5, 0, 0⟩ = (E5, (getPl (⟨B5, 0, 0⟩ : RS).num.2).2) := by
    unfold getEv
    rw [if_neg (by decide), if_neg (by decide), if_pos rfl, a1, a2]
    rfl
  unfold getR
  rw [e1]
  simp only
  rw [h.end_nil, if_neg (by simp), e5_r, if_neg (by decide)]
/-- Is an event too much? -/
def grtR (e : Ev) : Bool := decide (60 < e.pol.bands.length ∨ 60 < e.pol.slots.length ∨ 3000 < e.body.length)
set_option linter.unusedSimpArgs false in
set_option maxRecDepth 100000 in
set_option maxHeartbeats 6400000 in
theorem great_any (e : Ev) (a1 a2 a3 : Option Addr) (c1 c2 c3 : Nat) (w : World) :
    Calls Try.prog 6 #[evV e a1 a2 a3 c1 c2 c3] w fun r w' => r = .returned (.bool (grtR e)) ∧ Below w.heap.size w w' := by
  obtain ⟨kind, util, demand, t, id, n, ⟨pk, pt, bands, kp, ki, kd, pp, slots⟩, ⟨c1_, c2_, c3_, c4_, c5_, c6_, c7_, c8_, c9_, ca_, cb_, cc_⟩, body⟩ := e
  unfold grtR
  unfold evV evC
  simp only
  have hB := Lib.hid (fun o => bel1 (Below.refl w.heap.size w) o)
  by_cases h1 : 60 < bands.length
  · have d1 : decide ((60 : Int) < (bands.length : Int)) = true := by simp; omega
    have HH := Lib.hid h1
    clear h1
    go_enter Try.func6, Try.ntmps6
    go_wp2
    go_ret
    exact ⟨ret_bool (decide_eq_true (.inl HH.out)).symm, hB.out _⟩
  have d1 : decide ((60 : Int) < (bands.length : Int)) = false := by simp; omega
  by_cases h2 : 60 < slots.length
  · have d2 : decide ((60 : Int) < (slots.length : Int)) = true := by simp; omega
    have HH := Lib.hid h2
    clear h1 h2
    go_enter Try.func6, Try.ntmps6
    go_wp2
    go_ret
    exact ⟨ret_bool (decide_eq_true (.inr (.inl HH.out))).symm, hB.out _⟩
  have d2 : decide ((60 : Int) < (slots.length : Int)) = false := by simp; omega
  by_cases h3 : 3000 < body.length
  · have d3 : decide ((3000 : Int) < (body.length : Int)) = true := by simp; omega
    have HH := Lib.hid h3
    clear h1 h2 h3
    go_enter Try.func6, Try.ntmps6
    go_wp2
    go_ret
    exact ⟨ret_bool (decide_eq_true (.inr (.inr HH.out))).symm, hB.out _⟩
  have d3 : decide ((3000 : Int) < (body.length : Int)) = false := by simp; omega
  have HH := Lib.hid (And.intro h1 (And.intro h2 h3))
  clear h1 h2 h3
  go_enter Try.func6, Try.ntmps6
  go_wp2
  go_ret
  exact ⟨ret_bool (decide_eq_false (by have := HH.out; omega)).symm, hB.out _⟩
end Go.Proofs.Ytnpakjdgcmbcnaa

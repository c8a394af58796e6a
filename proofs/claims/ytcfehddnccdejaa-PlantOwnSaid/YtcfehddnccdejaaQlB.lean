/- Plants in memory; the document's All and New. -/
import Derived.Test.YtcfehddnccdejaaQlA
import Derived.Test.YtcfehddnccdejaaOwI
import Derived.Test.YtcfehddnccdejaaCfB
import Derived.Test.YtcfehddnccdejaaProg
import Derived.Test.YtcfehddnccdejaaChecked
import Derived.Deep.CutRange
import Derived.Deep.RegionHeld
import Derived.Lib.MinMax
namespace Go.Proofs.Ytcfehddnccdejaa
set_option linter.unusedSimpArgs false
set_option linter.unusedVariables false
open Go.RowKit
open Evn Plt
attribute [local go_sem] Oper.semAt_some

/-- A row of how many begin. -/
structure SRw (w : World) (a : Option Addr) (k : Nat) (l : List Int) : Prop where
  row : Row w w.heap.size a l.length k 1 (intsC l)
  nil_ : a = none → l.length = 0 ∧ k = 0
theorem SRw.on {w x : World} {a : Option Addr} {k : Nat} {l : List Int} (h : SRw w a k l) (hb : Below w.heap.size w x) : SRw x a k l := ⟨(h.row.below hb (Nat.le_refl _)).more hb.size, h.nil_⟩
theorem SRw.cell {w : World} {a : Option Addr} {k : Nat} {l : List Int} (h : SRw w a k l) {j : Nat} (hj : j < l.length) : ∃ b o, a = some ⟨b, o, none⟩ ∧ b < w.heap.size ∧ w.cell? ⟨b, o + j, none⟩ = some (.int .i64 (l.getD j 0)) := by
  obtain ⟨b, o, e, hlt, hc⟩ := h.row.at_ (by omega)
  exact ⟨b, o, e, hlt, hc j (by omega)⟩
/-- A plant as a value; a variable of one. -/
def ptV (p : Pt) (a : Option Addr) (k : Nat) : Value := .agg #[.int .i64 p.ready, .slice a p.start.length k, .int .i64 p.wait, .int .i64 p.util]
def PtAt (w : World) (g : Nat) (p : Pt) (a : Option Addr) (k : Nat) : Prop := w.heap[g]? = some (.cells #[.int .i64 p.ready, .slice a p.start.length k, .int .i64 p.wait, .int .i64 p.util] 26 (0, 0))
theorem PtAt.on {w x : World} {g : Nat} {p : Pt} {a : Option Addr} {k : Nat} (h : PtAt w g p a k) (hb : Below w.heap.size w x) : PtAt x g p a k := (hb.block g (lt_of_heap h)).trans h
theorem PtAt.c {w : World} {g : Nat} {p : Pt} {a : Option Addr} {k : Nat} (h : PtAt w g p a k) : w.cell? ⟨g, 0, none⟩ = some (.int .i64 p.ready) ∧ w.cell? ⟨g, 1, none⟩ = some (.slice a p.start.length k) ∧ w.cell? ⟨g, 2, none⟩ = some (.int .i64 p.wait) ∧ w.cell? ⟨g, 3, none⟩ = some (.int .i64 p.util) :=
  ⟨(cell_of_row _ _ _ _ _ _ h).trans rfl, (cell_of_row _ _ _ _ _ _ h).trans rfl, (cell_of_row _ _ _ _ _ _ h).trans rfl, (cell_of_row _ _ _ _ _ _ h).trans rfl⟩
/-- Few and small numbers. -/
structure NOk (p : Pt) : Prop where
  r1 : 0 ≤ p.ready
  r2 : p.ready ≤ 1000
  len : p.start.length ≤ 8
  nums : ∀ x ∈ p.start, 0 ≤ x ∧ x ≤ 1000
theorem TOk.n {p : Pt} (h : TOk p) : NOk p := ⟨h.r1, h.r2, h.len, h.nums⟩
theorem sm_le {l : List Int} (h : ∀ x ∈ l, 0 ≤ x ∧ x ≤ 1000) : 0 ≤ sm l ∧ sm l ≤ 1000 * (l.length : Int) := by
  induction l with
  | nil => exact ⟨Int.le_refl _, by simp [sm]⟩
  | cons x l ih =>
    have h1 := h x (by simp)
    have h2 := ih (fun y hy => h y (by simp [hy]))
    simp only [sm, List.length_cons]
    push_cast
    omega
theorem getD_ok {l : List Int} (h : ∀ x ∈ l, 0 ≤ x ∧ x ≤ 1000) {k : Nat} (hk : k < l.length) : 0 ≤ l.getD k 0 ∧ l.getD k 0 ≤ 1000 := h _ (by rw [List.getD_eq_getElem?_getD, List.getElem?_eq_getElem hk]; exact List.getElem_mem _)
set_option maxRecDepth 100000 in
set_option maxHeartbeats 3200000 in
theorem rall_any {w : World} {p : Pt} {a : Option Addr} {k : Nat} (hn : NOk p) (h : SRw w a k p.start) :
    Calls Try.prog 16 #[ptV p a k] w fun r w' => r = .returned (.int .i64 (all p)) ∧ Below w.heap.size w w' := by
  have hlen := hn.len
  have hle := h.row.le
  have hmx := h.row.max
  unfold maxLen at hmx
  obtain ⟨x, hx⟩ : ∃ x, x = w.alloc (.cells #[.int .i64 p.ready, .slice a p.start.length k, .int .i64 p.wait, .int .i64 p.util] 26) := ⟨_, rfl⟩
  have hB : Below w.heap.size w x := by rw [hx]; exact bel1 (Below.refl _ _) _
  have hP : PtAt x w.heap.size p a k := by rw [hx]; exact heap_alloc_new _ _
  have HR := Lib.hid (h.on hB)
  have HB := Lib.hid hB
  have HP := Lib.hid hP
  have HX := Lib.hid hx
  clear hB hP hx h
  have HO := Lib.hid hn
  clear hn
  obtain ⟨c0, c1, _, _⟩ := PtAt.c HP.out
  have HL : Hid (all p = p.ready + sm (p.start.take p.start.length)) := by show _ = _; unfold all; rw [List.take_length]
  generalize hN : p.start.length = N at *
  have HNN := Lib.hid hN
  clear hN
  unfold ptV
  rw [HNN.out]
  go_enter Try.func16, Try.ntmps16
  go_upto_region 1 with fail
  rw [← HX.out]
  go_wp2_with fail
  go_loopw [3, 4] (fun s i wx => ∃ j : Nat, j ≤ N ∧ i = .int .i64 (j : Int) ∧ s = .int .i64 (p.ready + sm (p.start.take j)) ∧ wx = x) (fun _ i _ => N - (intOf i).toNat)
  case atStart => exact ⟨0, Nat.zero_le _, rfl, by simp [sm], rfl⟩
  case round =>
    obtain ⟨j, hj, rfl, rfl, rfl⟩ := hrel
    by_cases hlt : j < N
    · have hlt' : (j : Int) < (N : Int) := by omega
      have hj0 : (0 : Int) ≤ (j : Int) := by omega
      obtain ⟨b, o, rfl, hbl, hc⟩ := HR.out.cell (by rw [HNN.out]; exact hlt)
      have hs := sm_take_succ (l := p.start) (k := j) (by rw [HNN.out]; exact hlt)
      have hv := getD_ok HO.out.nums (k := j) (by rw [HNN.out]; exact hlt)
      have hb := sm_le (l := p.start.take j) (fun z hz => HO.out.nums z (List.mem_of_mem_take hz))
      have hbl2 : ((p.start.take j).length : Int) ≤ 8 := by rw [List.length_take]; omega
      have hr1 := HO.out.r1
      have hr2 := HO.out.r2
      generalize p.start.getD j 0 = v at *
      generalize hq : sm (p.start.take j) = q at *
      have hw : IntKind.i64.wrap (p.ready + q + v) = p.ready + q + v := by rw [IntKind.wrap_i64]; omega
      have HS := Lib.hid hs
      have HK := Lib.hid hlt
      clear hs hv hb hbl2 hr1 hr2 hq hbl hlt
      go_wp2_with fail
      go_roundw
      case rel => exact ⟨j + 1, HK.out, by go_num, by rw [HS.out, ← Int.add_assoc], by trivial⟩
      case measure => have := HK.out; simp [intOf]; omega
    · have hlt' : ¬ (j : Int) < (N : Int) := by omega
      have e : j = N := by omega
      subst e
      go_wp2
      go_ret
      exact ⟨by rw [HL.out]; rfl, HB.out⟩
set_option maxRecDepth 100000 in
set_option maxHeartbeats 3200000 in
theorem rnew_any (n : Int) (w : World) :
    Calls Try.prog 18 #[.int .i64 n] w fun r w' => r = .returned (ptV (new n) none 0) ∧ Below w.heap.size w w' := by
  obtain ⟨N, hN⟩ : ∃ N, min (max n 0) 1000 = N := ⟨_, rfl⟩
  have HV : Hid (new n = ⟨N, [], 0, 0⟩) := by show _ = _; rw [← hN]; rfl
  go_enter Try.func18, Try.ntmps18
  go_wp2
  refine bodyPost_ret (results_cell_row rfl _ _ (w.heap.size) _ _ _ _ rfl (heap_alloc_new _ _) Try.underlying26 (by rfl) (by kernel_rfl)) (by rfl) ?_
  exact ⟨by rw [HV.out] <;> rfl, bel1 (Below.refl _ _) _⟩
end Go.Proofs.Ytcfehddnccdejaa

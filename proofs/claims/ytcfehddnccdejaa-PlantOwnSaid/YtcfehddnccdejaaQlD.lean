/- The midst of a step. -/
import Derived.Test.YtcfehddnccdejaaQlC
import Derived.Test.YtcfehddnccdejaaEwE
import Derived.Deep.CutRange
import Derived.Deep.RegionHeld
import Derived.Lib.MinMax
namespace Go.Proofs.Ytcfehddnccdejaa
set_option linter.unusedSimpArgs false
set_option linter.unusedVariables false
open Go.RowKit
open Evn Plt
attribute [local go_sem] Oper.semAt_some

/-- A mark as a value. -/
def mkV (m : Int × Bool) : Value := .agg #[.int .i64 m.1, .bool m.2]
/-- The midst of a step: boxes of the configuration and of both results, the variable. -/
structure SX (w wx : World) (c : Cf) (g : Nat) (q : Pt) (a : Option Addr) (k : Nat) : Prop where
  bel : Below w.heap.size w wx
  cb : CBx wx w.heap.size c
  z1 : wx.heap[w.heap.size + 2]? = some (.cells #[.int .i64 0, .slice none 0 0, .int .i64 0, .int .i64 0] 26 (0, 0))
  z2 : wx.heap[w.heap.size + 3]? = some (.cells #[.int .i64 0, .bool false] 31 (0, 0))
  px : PtAt wx g q a k
  row : SRw wx a k q.start
  hg : w.heap.size + 4 ≤ g
  own : ∀ b o, a = some ⟨b, o, none⟩ → w.heap.size + 4 ≤ b ∧ b ≠ g
theorem SX.on {w wx wy : World} {c : Cf} {g : Nat} {q : Pt} {a : Option Addr} {k : Nat} (h : SX w wx c g q a k) (hb : Below wx.heap.size wx wy) : SX w wy c g q a k :=
  ⟨bel2 h.bel hb, h.cb.on hb, (hb.block _ (lt_of_heap h.z1)).trans h.z1, (hb.block _ (lt_of_heap h.z2)).trans h.z2, h.px.on hb, h.row.on hb, h.hg, h.own⟩
/-- The variable is written: another plant. -/
theorem SX.put {w wx : World} {c : Cf} {g : Nat} {q q2 : Pt} {a a2 : Option Addr} {k k2 : Nat} (h : SX w wx c g q a k) (hr : SRw wx a2 k2 q2.start) (ho : ∀ b o, a2 = some ⟨b, o, none⟩ → w.heap.size + 4 ≤ b ∧ b ≠ g) :
    SX w (wx.setCells g 0 [.int .i64 q2.ready, .slice a2 q2.start.length k2, .int .i64 q2.wait, .int .i64 q2.util]) c g q2 a2 k2 :=
  ⟨below_setCells' g (by have := h.hg; omega) _ 0 h.bel, h.cb.far (by have := h.hg; omega) _, (far_cells _ g (by have := h.hg; omega) _ 0 wx).trans h.z1, (far_cells _ g (by have := h.hg; omega) _ 0 wx).trans h.z2,
   heap_setCells_whole (cs := [Value.int .i64 q.ready, .slice a q.start.length k, .int .i64 q.wait, .int .i64 q.util]) [.int .i64 q2.ready, .slice a2 q2.start.length k2, .int .i64 q2.wait, .int .i64 q2.util] rfl h.px, hr.far (fun b o e => (ho b o e).2) _, h.hg, ho⟩
theorem SRw.far1 {w : World} {a : Option Addr} {k : Nat} {l : List Int} (h : SRw w a k l) {q : Nat} (hq : ∀ g o, a = some ⟨g, o, none⟩ → g ≠ q) (j : Nat) (v : Value) : SRw (w.setCell ⟨q, j, none⟩ v) a k l :=
  ⟨⟨h.row.le, h.row.max, fun hp => by
    obtain ⟨b, o, e, hlt, hc⟩ := h.row.at_ hp
    refine ⟨b, o, e, by have := size_setCells q [v] j w; have e2 : (w.setCell ⟨q, j, none⟩ v).heap.size = w.heap.size := this; rw [e2]; exact hlt, fun i hi => ?_⟩
    exact (World.cell?_of_block (w := w) (a := ⟨b, o + i, none⟩) (Below.heap_setCell w ⟨q, j, none⟩ v b (hq b o e))).trans (hc i hi)⟩, h.nil_⟩
theorem SX.cell {w wx : World} {c : Cf} {g : Nat} {q q2 : Pt} {a a2 : Option Addr} {k k2 : Nat} (h : SX w wx c g q a k) (j : Nat) (v : Value)
    (hv : (#[Value.int .i64 q.ready, .slice a q.start.length k, .int .i64 q.wait, .int .i64 q.util] : Array Value).setIfInBounds j v = #[.int .i64 q2.ready, .slice a2 q2.start.length k2, .int .i64 q2.wait, .int .i64 q2.util])
    (hr : SRw wx a2 k2 q2.start) (ho : ∀ b o, a2 = some ⟨b, o, none⟩ → w.heap.size + 4 ≤ b ∧ b ≠ g) : SX w (wx.setCell ⟨g, j, none⟩ v) c g q2 a2 k2 := by
  have hgg := h.hg
  refine ⟨h.bel.setCell (by show _ ≤ g; omega) v, (Below.heap_setCell wx ⟨g, j, none⟩ v _ (by show _ ≠ g; omega)).trans h.cb, (Below.heap_setCell wx ⟨g, j, none⟩ v _ (by show _ ≠ g; omega)).trans h.z1, (Below.heap_setCell wx ⟨g, j, none⟩ v _ (by show _ ≠ g; omega)).trans h.z2, ?_, hr.far1 (fun b o e => (ho b o e).2) j v, h.hg, ho⟩
  have := heap_setCell_same wx g j _ 26 v h.px
  rw [hv] at this
  exact this
theorem SRw.from_ {w : World} {a : Option Addr} {k : Nat} {x : Int} {l : List Int} (h : SRw w a k (x :: l)) : SRw w (if k = 1 then a else a.map (·.add 1)) (k - 1) l := by
  have h0 := h.row.le
  simp only [List.length_cons] at h0
  obtain ⟨b, o, rfl, hlt, hc⟩ := h.row.at_ (by simp)
  refine ⟨⟨by omega, by have := h.row.max; omega, fun hp => ?_⟩, fun hn => ?_⟩
  · refine ⟨b, o + 1, ?_, hlt, fun j hj => ?_⟩
    · rw [if_neg (by omega)]; simp [Addr.add_mid]
    · have := hc (j + 1) (by simp; omega)
      rw [show o + (j + 1) = o + 1 + j by omega] at this
      rw [this]
      simp [intsC]
  · exfalso
    split at hn
    · cases hn
    · cases hn
theorem own_from {b1 o1 k : Nat} {P : Nat → Prop} (h : P b1) : ∀ b o, (if k = 1 then some (⟨b1, o1, none⟩ : Addr) else (some (⟨b1, o1, none⟩ : Addr)).map (·.add 1)) = some ⟨b, o, none⟩ → P b := by
  intro b o e
  split at e
  · injection e with e; injection e with e1; exact e1 ▸ h
  · simp [Addr.add_mid] at e
    exact e.1 ▸ h
theorem SRw.pop {w : World} {a : Option Addr} {k : Nat} {x : Int} {l : List Int} (h : SRw w a k (l ++ [x])) : SRw w a k l := by
  have h0 := h.row.le
  simp only [List.length_append, List.length_cons, List.length_nil] at h0
  obtain ⟨b, o, rfl, hlt, hc⟩ := h.row.at_ (by simp)
  refine ⟨⟨by omega, h.row.max, fun hp => ⟨b, o, rfl, hlt, fun j hj => ?_⟩⟩, fun hn => by cases hn⟩
  rw [hc j (by simp; omega)]
  simp only [intsC, List.getD_eq_getElem?_getD]
  rw [List.getElem?_append_left (by omega)]
end Go.Proofs.Ytcfehddnccdejaa

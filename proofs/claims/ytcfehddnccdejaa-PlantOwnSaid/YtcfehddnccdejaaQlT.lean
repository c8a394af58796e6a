/- The midst of the program's Step; what it comes to. -/
import Derived.Test.YtcfehddnccdejaaQlS
import Derived.Test.YtcfehddnccdejaaQlQ
import Derived.Test.YtcfehddnccdejaaEwE
namespace Go.Proofs.Ytcfehddnccdejaa
set_option linter.unusedSimpArgs false
set_option linter.unusedVariables false
open Go.RowKit
open Evn Plt
attribute [local go_sem] Oper.semAt_some

theorem back_none {l : List Int} (h : ∀ x ∈ l, 0 ≤ x) : back l 0 = (l, 0) := by
  induction l with
  | nil => rfl
  | cons x l ih =>
    have h0 := h x (by simp)
    rw [back_cons, ih (fun y hy => h y (by simp [hy]))]
    have : min x 0 = 0 := by omega
    simp [this]
theorem qtrim_pad (l : List Int) (n : Nat) : trim (l ++ List.replicate n 0) = trim l := by
  induction n with
  | zero => simp
  | succ n ih => rw [List.replicate_succ', ← List.append_assoc, trim_snoc_zero, ih]
theorem trim_put_none {l : List Int} {d : Nat} (hd : 0 < d) : trim (put l d 0) = trim l := by
  have hl : d - 1 < (pad l d).length := by rw [pad_len]; omega
  have e : put l d 0 = pad l d := by
    unfold put
    rw [Int.add_zero, List.getD_eq_getElem?_getD, List.getElem?_eq_getElem hl]
    simp
  rw [e]
  exact qtrim_pad _ _
/-- What holds behind begin or leave. -/
structure Mid (q s : Pt) : Prop where
  r : q.ready = s.ready
  t : trim q.start = trim s.start
  ok : NOk q
theorem mid_more {d : Int} {p : Pt} {W : Int} (hn : NOk p) (hd : 0 ≤ d ∧ d ≤ 8) (hW : 0 ≤ W ∧ W ≤ 1000) (u : Int) (h : 0 < W - all p) : Mid (pbg d ⟨p.ready, p.start, p.wait, u⟩ (W - all p)) (sized d p W) := by
  have hs := (sized_ok hn hd hW).2
  unfold sized at hs ⊢
  rw [if_pos (by omega)] at hs ⊢
  unfold pbg
  split
  · rename_i e
    rw [if_pos e] at hs
    exact ⟨rfl, rfl, hs.r1, hs.r2, hs.len, hs.nums⟩
  · rename_i e
    rw [if_neg e] at hs
    exact ⟨rfl, rfl, hs.r1, hs.r2, hs.len, hs.nums⟩
theorem mid_less {d : Int} {p : Pt} {W : Int} (hn : NOk p) (hd : 0 ≤ d ∧ d ≤ 8) (hW : 0 ≤ W ∧ W ≤ 1000) (u : Int) (h : W - all p ≤ 0) : Mid ⟨p.ready - (back p.start (-(W - all p))).2, (back p.start (-(W - all p))).1, p.wait, u⟩ (sized d p W) := by
  have hs := (sized_ok hn hd hW).2
  have e0 : -(W - all p) = all p - W := by omega
  rw [e0]
  unfold sized at hs ⊢
  by_cases h0 : W - all p = 0
  · have e1 : all p - W = 0 := by omega
    rw [if_pos (by omega), e1, back_none (fun x hx => (hn.nums x hx).1), h0]
    split
    · exact ⟨by simp, rfl, by simpa using hn.r1, by simpa using hn.r2, hn.len, hn.nums⟩
    · rename_i hd0
      exact ⟨by simp, (trim_put_none (by omega)).symm, by simpa using hn.r1, by simpa using hn.r2, hn.len, hn.nums⟩
  · rw [if_neg (by omega)] at hs ⊢
    exact ⟨rfl, rfl, hs.r1, hs.r2, hs.len, hs.nums⟩
/-- The midst of the program's Step: boxes of the configuration, of the plant, of both results. -/
structure PX (w wx : World) (c : Cf) (q : Pt) (a : Option Addr) (k : Nat) : Prop where
  bel : Below w.heap.size w wx
  cb : CBx wx w.heap.size c
  z1 : wx.heap[w.heap.size + 2]? = some (.cells #[.int .i64 0, .slice none 0 0, .int .i64 0, .int .i64 0] 26 (0, 0))
  z2 : wx.heap[w.heap.size + 3]? = some (.cells #[.int .i64 0, .bool false] 31 (0, 0))
  px : PtAt wx (w.heap.size + 1) q a k
  row : SRw wx a k q.start
  far : ∀ b o, a = some ⟨b, o, none⟩ → w.heap.size + 4 ≤ b
theorem PX.on {w wx wy : World} {c : Cf} {q : Pt} {a : Option Addr} {k : Nat} (h : PX w wx c q a k) (hb : Below wx.heap.size wx wy) : PX w wy c q a k :=
  ⟨bel2 h.bel hb, h.cb.on hb, (hb.block _ (lt_of_heap h.z1)).trans h.z1, (hb.block _ (lt_of_heap h.z2)).trans h.z2, h.px.on hb, h.row.on hb, h.far⟩
/-- The plant's variable and its row are all that changed. -/
theorem PX.but {w wx wy : World} {c : Cf} {q q2 : Pt} {a a2 : Option Addr} {k k2 : Nat} (h : PX w wx c q a k) (h0 : OwnV wx (w.heap.size + 4) 3 (.slice a q.start.length k) (i64V q.start)) (hb : But (PlO (w.heap.size + 1) (.slice a q.start.length k)) wx wy) (hown : OwnV wy (w.heap.size + 4) 3 (.slice a2 q2.start.length k2) (i64V q2.start)) (hp : PtAt wy (w.heap.size + 1) q2 a2 k2) : PX w wy c q2 a2 k2 := by
  have hlt := lt_of_heap h.z2
  have hne : ∀ j, j < w.heap.size + 4 → j ≠ w.heap.size + 1 → ¬ PlO (w.heap.size + 1) (.slice a q.start.length k) j := fun j hj hj1 ho => by
    rcases ho with e | e
    · exact hj1 e
    · have := (World.ownsRow.lt h0 j e).1; omega
  obtain ⟨a1, c1, e1, S1, F1, _⟩ := own_srw hown
  injection e1 with e2 _ e3
  subst e2 e3
  exact ⟨⟨hb.os.trans h.bel.os, hb.tape.trans h.bel.tape, hb.output.trans h.bel.output, Nat.le_trans h.bel.size hb.size, fun j hj => (hb.block j (by omega) (hne j (by omega) (by omega))).trans (h.bel.block j hj)⟩,
    (hb.block _ (by omega) (hne _ (by omega) (by omega))).trans h.cb, (hb.block _ (by omega) (hne _ (by omega) (by omega))).trans h.z1, (hb.block _ (by omega) (hne _ (by omega) (by omega))).trans h.z2, hp, S1, F1⟩
theorem PX.cell {w wx : World} {c : Cf} {q q2 : Pt} {a a2 : Option Addr} {k k2 : Nat} (h : PX w wx c q a k) (j : Nat) (v : Value)
    (hv : (#[Value.int .i64 q.ready, .slice a q.start.length k, .int .i64 q.wait, .int .i64 q.util] : Array Value).setIfInBounds j v = #[.int .i64 q2.ready, .slice a2 q2.start.length k2, .int .i64 q2.wait, .int .i64 q2.util])
    (hr : SRw wx a2 k2 q2.start) (ho : ∀ b o, a2 = some ⟨b, o, none⟩ → w.heap.size + 4 ≤ b) : PX w (wx.setCell ⟨w.heap.size + 1, j, none⟩ v) c q2 a2 k2 := by
  refine ⟨h.bel.setCell (by show _ ≤ w.heap.size + 1; omega) v, (Below.heap_setCell wx ⟨w.heap.size + 1, j, none⟩ v _ (by show _ ≠ w.heap.size + 1; omega)).trans h.cb, (Below.heap_setCell wx ⟨w.heap.size + 1, j, none⟩ v _ (by show _ ≠ w.heap.size + 1; omega)).trans h.z1, (Below.heap_setCell wx ⟨w.heap.size + 1, j, none⟩ v _ (by show _ ≠ w.heap.size + 1; omega)).trans h.z2, ?_, hr.far1 (fun b o e => by have := ho b o e; omega) j v, ho⟩
  have := heap_setCell_same wx (w.heap.size + 1) j _ 26 v h.px
  rw [hv] at this
  exact this
/-- What a step of the plant is, where its parts are known. -/
theorem step_of {c : Cf} {p sz : Pt} {want demand V U : Int} {L : List Int} (hs : sized c.delay (first p) (rep want) = sz) (hL : trim sz.start = L)
    (hV : max (Fx.add p.wait (max 0 (min demand 1000000)) - min (sz.ready * c.cap) 1000000000) 0 = V) (hU : Fx.div (Fx.add p.wait (max 0 (min demand 1000000))) (min (sz.ready * c.cap) 1000000000) = U) : Plt.step c p want demand = ⟨sz.ready, L, V, U⟩ := by
  have e : min (max demand 0) 1000000 = max 0 (min demand 1000000) := by omega
  unfold Plt.step todo can
  rw [hs, e, hL, hV, hU]
end Go.Proofs.Ytcfehddnccdejaa

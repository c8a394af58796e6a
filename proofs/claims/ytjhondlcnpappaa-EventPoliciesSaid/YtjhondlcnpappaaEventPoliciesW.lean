/- EventPolicies: the walk. -/
import Derived.Test.YtjhondlcnpappaaEvPa
import Derived.Deep.RegionHeld3
import Derived.Deep.CutRange
import Derived.Deep.DeepCutAuto
namespace Go.Proofs.Ytjhondlcnpappaa
open Go.RowKit
open Wir Evn
set_option linter.unusedVariables false
set_option linter.unusedSimpArgs false
attribute [local go_sem] Oper.semAt_some

def plC (p : Pl) (a1 a2 : Option Addr) (c1 c2 : Nat) : Array Value := #[.int .i64 p.kind, .int .i64 p.target, .slice a1 p.bands.length c1, .int .i64 p.kp, .int .i64 p.ki, .int .i64 p.kd, .int .i64 p.period, .slice a2 p.slots.length c2]
theorem plC_cell {w : World} {q : Nat} {p : Pl} {a1 a2 : Option Addr} {c1 c2 : Nat} (h : w.heap[q]? = some (.cells (plC p a1 a2 c1 c2) 25 (0, 0))) (j : Nat) (v : Value) (hv : (plC p a1 a2 c1 c2)[j]? = some v) : w.cell? ⟨q, j, none⟩ = some v := by
  rw [cell_of_row w q j _ _ _ h]; exact hv
theorem new_pol (w : World) (cs : Array Value) (hs : cs.size = 8) :
    ∃ w', (w.alloc (.cells #[.int .i64 0, .int .i64 0, .slice none 0 0, .int .i64 0, .int .i64 0, .int .i64 0, .int .i64 0, .slice none 0 0] 25)).setCells w.heap.size 0 cs.toList = w' ∧ w'.heap[w.heap.size]? = some (.cells cs 25 (0, 0)) ∧ Below w.heap.size w w' := by
  have hb : Below w.heap.size w ((w.alloc (.cells #[.int .i64 0, .int .i64 0, .slice none 0 0, .int .i64 0, .int .i64 0, .int .i64 0, .int .i64 0, .slice none 0 0] 25)).setCells w.heap.size 0 cs.toList) := below_setCells' _ (Nat.le_refl _) _ _ (bel1 (Below.refl _ _) _)
  exact ⟨_, rfl, store27 (heap_alloc_new w (.cells #[.int .i64 0, .int .i64 0, .slice none 0 0, .int .i64 0, .int .i64 0, .int .i64 0, .int .i64 0, .slice none 0 0] 25)) (by rw [hs]; rfl), hb⟩
theorem size_set (w : World) (q : Addr) (v : Value) : (w.setCell q v).heap.size = w.heap.size := by simp
theorem new_polg (w : World) (g : Nat) (hg : w.heap.size = g) (cs : Array Value) (hs : cs.size = 8) :
    ∃ w', (w.alloc (.cells #[.int .i64 0, .int .i64 0, .slice none 0 0, .int .i64 0, .int .i64 0, .int .i64 0, .int .i64 0, .slice none 0 0] 25)).setCells g 0 cs.toList = w' ∧ w'.heap[g]? = some (.cells cs 25 (0, 0)) ∧ Below w.heap.size w w' := by
  subst hg; exact new_pol w cs hs
theorem there_newg (w : World) (g : Nat) (hg : w.heap.size = g) (cs : Array Value) {T : TypeId} : (w.alloc (.cells cs T)).there g 0 cs.size := by subst hg; exact there_new w cs
theorem OwnP.lit_g (w : World) (g base : Nat) (e : TypeId) (hg : w.heap.size = g) (hb : base ≤ w.heap.size) : OwnP (w.alloc (.cells #[] e)) base e (.slice (some ⟨g, 0, none⟩) 0 0) [] := by
  subst hg; exact OwnP.lit_ w base e hb
theorem old_block {w w' : World} {q : Nat} {o : Obj} (h : w.heap[q]? = some o) (hb : Below w.heap.size w w') : w'.heap[q]? = some o := (hb.block q (lt_of_heap h)).trans h
theorem set_cellP {w : World} {q : Nat} {T : TypeId} {cs cs' : Array Value} {j : Nat} {v : Value} (h : w.heap[q]? = some (.cells cs T (0, 0))) (he : cs.setIfInBounds j v = cs') : (w.setCell ⟨q, j, none⟩ v).heap[q]? = some (.cells cs' T (0, 0)) := by
  rw [← he]; exact heap_setCell_same _ _ _ _ _ _ h
theorem OwnP.prow_ {w : World} {base n c : Nat} {e : TypeId} {a : Option Addr} {l : List (Int × Int)} (h : OwnP w base e (.slice a n c) l) : PRow w a n c l := by
  obtain ⟨a', c', hv, h'⟩ := h.prow
  injection hv with h1 h2 h3
  subst h1 h2 h3
  exact h'
theorem PRow.one_ {w : World} {g : Nat} {T : TypeId} {x : Int × Int} (h : w.heap[g]? = some (.cells #[.int .i64 x.1, .int .i64 x.2] T (0, 0))) : PRow w (some ⟨g, 0, none⟩) 1 1 [x] :=
  ⟨Row.new h (by
    intro j hj
    have : j = 0 ∨ j = 1 := by omega
    rcases this with rfl | rfl <;> rfl) (by simp [maxLen]), rfl⟩
theorem OwnP.at_ge {w : World} {base n c : Nat} {e : TypeId} {a : Option Addr} {l : List (Int × Int)} (h : OwnP w base e (.slice a n c) l) : ∀ b o, a = some ⟨b, o, none⟩ → base ≤ b := by
  rintro b o rfl
  exact (World.ownsRow.lt h b rfl).1
theorem PRow.at_set {w : World} {a : Option Addr} {n c g j : Nat} {u : Value} {l : List (Int × Int)} (h : PRow w a n c l) (hne : ∀ b o, a = some ⟨b, o, none⟩ → b ≠ g) : PRow (w.setCell ⟨g, j, none⟩ u) a n c l := by
  refine ⟨⟨h.1.le, h.1.max, fun hp => ?_⟩, h.2⟩
  obtain ⟨b, o, e, hb, hc⟩ := h.1.at_ hp
  exact ⟨b, o, e, by simpa using hb, fun k hk => cell_set_far (p := ⟨g, j, none⟩) (hc k hk) (hne b o e)⟩
theorem grownBy_belowO {B : Nat} {a w w' : World} {r : Option Nat} (h : Below B a w) (hg : w.grownBy w' r) (hB : B ≤ w.heap.size) (hr : ∀ k, r = some k → B ≤ k) : Below B a w' := by
  cases r with
  | some g => exact grownBy_below h hg hB (hr g rfl)
  | none => exact grownBy_below (g := w.heap.size) h ⟨hg.os, hg.tape, hg.output, hg.size, fun k hk _ => hg.block k hk (by simp)⟩ hB hB
theorem OwnP.keep_set {w : World} {base : Nat} {e : TypeId} {v : Value} {l : List (Int × Int)} (h : OwnP w base e v l) (q : Addr) (u : Value) (hq : q.block < base) : OwnP (w.setCell q u) base e v l := by
  unfold OwnP at *
  refine ⟨h.1, ?_⟩
  rcases h.2 with h1 | ⟨g, cap, cur, h1, h2, h3, h4⟩
  · exact .inl h1
  · exact .inr ⟨g, cap, cur, h1, h2, (heap_setCell_other w q g u (by omega)).trans h3, h4⟩
theorem OwnP.at0 {w : World} {base n c : Nat} {e : TypeId} {a : Option Addr} {l : List (Int × Int)} (h : OwnP w base e (.slice a n c) l) (hp : 0 < l.length) : ∃ g cur, a = some ⟨g, 0, none⟩ ∧ base ≤ g ∧ w.heap[g]? = some (.cells cur e (0, 0)) ∧ l.length * 2 ≤ cur.size := by
  rcases h.2 with ⟨h1, h0⟩ | ⟨g, cap, cur, h1, h2, h3, h4, h5, h6, _⟩
  · omega
  · injection h1 with e1 e2 e3
    exact ⟨g, cur, e1, h2, h3, by omega⟩
theorem pcells_set : ∀ (l : List (Int × Int)) (j : Nat) (z : Int × Int), ((pcells l).set (j * 2) (.int .i64 z.1)).set (j * 2 + 1) (.int .i64 z.2) = pcells (l.set j z)
  | [], _, _ => by simp [pcells, pairs]
  | x :: r, 0, z => rfl
  | x :: r, j + 1, z => by
    have h := pcells_set r j z
    rw [show (j + 1) * 2 = j * 2 + 1 + 1 from by omega]
    show Value.int .i64 x.1 :: .int .i64 x.2 :: ((pcells r).set (j * 2) (.int .i64 z.1)).set (j * 2 + 1) (.int .i64 z.2) = _
    rw [h]
    rfl
theorem OwnP.set2 {w : World} {base g n c : Nat} {e : TypeId} {l : List (Int × Int)} (h : OwnP w base e (.slice (some ⟨g, 0, none⟩) n c) l) (j : Nat) (z : Int × Int) : OwnP (w.setCells g (j * 2) [.int .i64 z.1, .int .i64 z.2]) base e (.slice (some ⟨g, 0, none⟩) n c) (l.set j z) := by
  have hn : n = l.length := by
    obtain ⟨a', c', hv, _⟩ := h.prow
    injection hv
  subst hn
  have h1 := (World.ownsRow.stored h (j * 2) (.int .i64 z.1)).1
  have h2 := (World.ownsRow.stored h1 (j * 2 + 1) (.int .i64 z.2)).1
  unfold OwnP
  rw [List.length_set, ← pcells_set l j z]
  exact h2
theorem cell_but {w x : World} {g : Nat} {q : Addr} {v : Value} (hb : But (fun i => i = g) w x) (h : w.cell? q = some v) (hn : q.block ≠ g) : x.cell? q = some v :=
  (World.cell?_of_block (hb.block q.block (block_lt_of_cell h) hn)).trans h
theorem block_but {w x : World} {g q : Nat} {o : Obj} (hb : But (fun i => i = g) w x) (h : w.heap[q]? = some o) (hn : q ≠ g) : x.heap[q]? = some o := (hb.block q (lt_of_heap h) hn).trans h
theorem there_row {w : World} {q o n : Nat} {T : TypeId} {cs : Array Value} (h : w.heap[q]? = some (.cells cs T (0, 0))) (hn : o + n ≤ cs.size) : w.there q o n := by
  intro j hj
  rw [cell_of_row w q (o + j) cs T (0, 0) h]
  exact ⟨by simp; omega, frozen_of_row w q (o + j) cs T h⟩
theorem exec_load_rowP {P : Program} {o : Oper} {ρ : Operand → Value} {w : World} (ty : TypeId) (x : Operand) (ho : o.op = .load ty x)
    (g : Nat) (hx : ρ x = .pointer (some ⟨g, 0, none⟩)) (t : TypeId) (cs : Array Value) (fr : Nat × Nat) (d : TypeDesc) (hg : w.heap[g]? = some (.cells cs t fr))
    (hu : P.underlying ty = some d) (hd : (match d with | .struct _ | .array _ _ => true | _ => false) = true) (hi : (P.info? ty).map (·.size) = some cs.size) :
    (execOp ρ o).run P w = .ok (.value (.agg cs)) w := by
  unfold execOp
  simp only [ho, hx, Instr.loadAt, Instr.sureAddr, Sem.run_bind, Sem.run_pure, Result.andThen_ok, run_loadVar_row w g t ty cs fr d hg hu hd hi]
theorem set_far {w : World} {q g : Nat} {o : Obj} {j : Nat} {v : Value} (h : w.heap[q]? = some o) (hn : q ≠ g) : (w.setCell ⟨g, j, none⟩ v).heap[q]? = some o := (heap_setCell_other w ⟨g, j, none⟩ q v hn).trans h
set_option linter.unusedSimpArgs false in
set_option maxRecDepth 100000 in
set_option maxHeartbeats 6400000 in
theorem eventPolicies_plain {w : World} {a1 a2 : Option Addr} {c1 c2 : Nat} (p : Pl) (r1 : PRow w a1 p.bands.length c1 p.bands) (r2 : PRow w a2 p.slots.length c2 p.slots) (at_ : Int) (hat : 0 ≤ at_ ∧ at_ ≤ 255) (hk : p.kind ≠ 2 ∧ p.kind ≠ 4) :
    Calls Try.prog 7 #[plV p a1 a2 c1 c2, .int .u8 at_] w fun r w' => r = .returned (.bool true) ∧ Below w.heap.size w w' := by
  have hbv : (w.alloc (.cells (plC p a1 a2 c1 c2) 25)).heap[w.heap.size]? = some (.cells (plC p a1 a2 c1 c2) 25 (0, 0)) := heap_alloc_new _ _
  have hbb : Below w.heap.size w (w.alloc (.cells (plC p a1 a2 c1 c2) 25)) := bel1 (Below.refl _ _) _
  have HB := Lib.hid (And.intro hbv hbb)
  have HR := Lib.hid (And.intro r1 r2)
  have HA := Lib.hid hat
  clear hbv hbb r1 r2 hat
  have HK := Lib.hid hk
  have n2 : (p.kind == 2) = false := by simpa using hk.1
  have n4 : (p.kind == 4) = false := by simpa using hk.2
  clear hk
  unfold plV
  go_enter Try.func7, Try.ntmps7
  go_wp2_with fail
  refine (head_any _).mono ?_
  rintro r w1 ⟨rfl, h1⟩
  have V1 := Lib.hid (old_block HB.out.1 h1)
  have B1 := Lib.hid (bel2 HB.out.2 h1)
  clear h1 HB
  go_wp2_with (first | (refine wpList_load_row (by rfl) 25 (.tmp 2) (by rfl) w.heap.size (by rfl) 25 #[.int .i64 p.kind, .int .i64 p.target, .slice a1 p.bands.length c1, .int .i64 p.kp, .int .i64 p.ki, .int .i64 p.kd, .int .i64 p.period, .slice a2 p.slots.length c2] (0, 0) _ V1.out Try.underlying25 (by rfl) (by kernel_rfl) ?_))
  refine (great_any { ofKind 0 with pol := p } a1 a2 none c1 c2 0 _).mono ?_
  rintro r w2 ⟨rfl, h2⟩
  have V2 := Lib.hid (old_block V1.out h2)
  have B2 := Lib.hid (bel2 B1.out h2)
  clear h2 V1 B1
  cases hg : grtR { ofKind 0 with pol := p }
  rotate_left
  · clear hg
    go_wp2
    go_ret
    exact ⟨rfl, B2.out⟩
  clear hg
  go_wp2_with (first | (refine wpList_load_rowG ?_ 25 (.tmp 2) (by rfl) w.heap.size (by rfl) 25 (plC p a1 a2 c1 c2) (0, 0) _ V2.out Try.underlying25 (by rfl) (by kernel_rfl) ?_; focus (first | rfl | (simp [Region.wanted, yielded]; done) | (simp [Region.wanted, yielded, *]; done))))
  refine (policy_any p (HR.out.1.on B2.out) (HR.out.2.on B2.out)).mono ?_
  rintro r w3 ⟨rfl, h3⟩
  have V3 := Lib.hid (old_block V2.out h3)
  have B3 := Lib.hid (bel2 B2.out h3)
  clear h3 V2 B2
  cases hp : polR p
  · clear hp
    go_wp2
    go_ret
    exact ⟨rfl, B3.out⟩
  have HP := Lib.hid hp
  clear hp
  have hlen : p.bands.length ≤ 8 ∧ p.slots.length ≤ 8 := by
    have hp := HP.out
    by_cases k2 : p.kind = 2
    · have := pol_two hp k2
      exact ⟨by omega, by rw [this.2.2.2]; simp⟩
    · by_cases k4 : p.kind = 4
      · have := pol_four hp k4
        exact ⟨by rw [this.2.2]; simp, by omega⟩
      · have := pol_plain hp k2 k4
        exact ⟨by rw [this.2.1]; simp, by rw [this.2.2]; simp⟩
  have HL := Lib.hid hlen
  clear hlen
  obtain ⟨w4, e4, x4, b4⟩ := new_pol w3 (plC p a1 a2 c1 c2) rfl
  have HE := Lib.hid e4
  have q01 : w.heap.size < w3.heap.size := lt_of_heap V3.out
  have B4 := Lib.hid (bel2 B3.out b4)
  have V4 := Lib.hid (old_block V3.out b4)
  have X4 := Lib.hid x4
  have q14 : w3.heap.size < w4.heap.size := lt_of_heap X4.out
  have HQ := Lib.hid (And.intro q01 q14)
  have k42 : (w4.alloc (.cells #[] 46)).cell? ⟨w.heap.size, 2, none⟩ = some (.slice a1 p.bands.length c1) := plC_cell (old_block V4.out (bel1 (Below.refl _ _) _)) 2 _ rfl
  clear e4 x4 b4 q01 q14 B3
  go_wp2_with (first | (refine wpList_load_row (by rfl) 25 (.tmp 2) (by rfl) w.heap.size (by rfl) 25 (plC p a1 a2 c1 c2) (0, 0) _ V3.out Try.underlying25 (by rfl) (by kernel_rfl) ?_) | (refine wpList_store_mid (by rfl) 25 (.tmp 6) (.tmp 19) (by rfl) w3.heap.size 0 (plC p a1 a2 c1 c2) (by rfl) (by rfl) (there_new _ _) (by kernel_rfl) (by kernel_rfl) ?_; rw [HE.out]) | (at_builtin; refine wpList_append_pairs rfl (.tmp 20) (.tmp 22) 22 rfl w4.heap.size 46 Try.underlying22 info_band (.slice (some ⟨w4.heap.size, 0, none⟩) 0 0) [] (by rfl) (OwnP.lit_ _ _ _ (Nat.le_refl _)) a1 _ c1 p.bands (by rfl) ((HR.out.1.on B4.out).on (bel1 (Below.refl _ _) _)) (by have := HL.out; simp; omega) (by simp) ?_; (intro v5 w5 ho5 hg5 _); (rw [List.nil_append] at ho5); (obtain ⟨a5, n5, hv5, hp5⟩ := ho5.prow); (subst hv5); (have hb5 : Below w4.heap.size w4 w5 := grownBy_below (bel1 (Below.refl w4.heap.size w4) _) hg5 (by simp) (Nat.le_refl _)); (have V5 := Lib.hid (old_block V4.out hb5)); (have X5 := Lib.hid (old_block X4.out hb5)); (have O5 := Lib.hid ho5); (have H5 := Lib.hid hb5); (have k52 : w5.cell? ⟨w3.heap.size, 2, none⟩ = some (.slice a1 p.bands.length c1) := plC_cell X5.out 2 _ rfl); (have z52 := frozen_of_row _ _ 2 _ _ X5.out); (have X6 := Lib.hid (set_cellP (j := 2) (v := .slice a5 p.bands.length n5) (cs' := plC p a5 a2 n5 c2) X5.out rfl)); (have V6 := Lib.hid (set_far (g := w3.heap.size) (j := 2) (v := .slice a5 p.bands.length n5) V5.out (by have := HQ.out.1; omega))); (have k67 : ((w5.setCell ⟨w3.heap.size, 2, none⟩ (.slice a5 p.bands.length n5)).alloc (.cells #[] 48)).cell? ⟨w.heap.size, 7, none⟩ = some (.slice a2 p.slots.length c2) := plC_cell (old_block V6.out (bel1 (Below.refl _ _) _)) 7 _ rfl); (have B6 := Lib.hid (bel2 B4.out hb5 |>.setCell (p := ⟨w3.heap.size, 2, none⟩) (Nat.le_of_lt HQ.out.1) (.slice a5 p.bands.length n5))); (have s6 : w4.heap.size ≤ (w5.setCell ⟨w3.heap.size, 2, none⟩ (.slice a5 p.bands.length n5)).heap.size := by simpa using hb5.size); (have H6 := Lib.hid s6); (clear hp5 hb5 hg5 ho5 s6)) | (at_builtin; refine wpList_append_pairs rfl (.tmp 25) (.tmp 27) 23 rfl w4.heap.size 48 Try.underlying23 info_slot (.slice (some ⟨w5.heap.size, 0, none⟩) 0 0) [] (by rfl) (OwnP.lit_g _ _ _ _ (size_set _ _ _) H6.out) a2 _ c2 p.slots (by rfl) ((HR.out.2.on B6.out).on (bel1 (Below.refl _ _) _)) (by have := HL.out; simp; omega) (by have := H6.out; simp at this ⊢; omega) ?_; (intro v7 w7 ho7 hg7 _); (rw [List.nil_append] at ho7); (obtain ⟨a7, n7, hv7, hp7⟩ := ho7.prow); (subst hv7); (have hb7 : Below (w5.setCell ⟨w3.heap.size, 2, none⟩ (.slice a5 p.bands.length n5)).heap.size (w5.setCell ⟨w3.heap.size, 2, none⟩ (.slice a5 p.bands.length n5)) w7 := grownBy_below (bel1 (Below.refl (w5.setCell ⟨w3.heap.size, 2, none⟩ (.slice a5 p.bands.length n5)).heap.size (w5.setCell ⟨w3.heap.size, 2, none⟩ (.slice a5 p.bands.length n5))) _) hg7 (by simp) (Nat.le_of_eq (size_set _ _ _))); (have V7 := Lib.hid (old_block V6.out hb7)); (have X7 := Lib.hid (old_block X6.out hb7)); (have O7 := Lib.hid ho7); (have k77 : w7.cell? ⟨w3.heap.size, 7, none⟩ = some (.slice a2 p.slots.length c2) := plC_cell X7.out 7 _ rfl); (have z77 := frozen_of_row _ _ 7 _ _ X7.out); (have X8 := Lib.hid (set_cellP (j := 7) (v := .slice a7 p.slots.length n7) (cs' := plC p a5 a7 n5 n7) X7.out rfl)); (have V8 := Lib.hid (set_far (g := w3.heap.size) (j := 7) (v := .slice a7 p.slots.length n7) V7.out (by have := HQ.out.1; omega))); (have B8 := Lib.hid (bel2 B6.out hb7 |>.setCell (p := ⟨w3.heap.size, 7, none⟩) (Nat.le_of_lt HQ.out.1) (.slice a7 p.slots.length n7))); (have O5' : Hid (OwnP (w7.setCell ⟨w3.heap.size, 7, none⟩ (.slice a7 p.slots.length n7)) w4.heap.size 46 (.slice a5 p.bands.length n5) p.bands) := ((O5.out.keep_set _ _ HQ.out.2).below hb7).keep_set _ _ HQ.out.2); (have O7' : Hid (OwnP (w7.setCell ⟨w3.heap.size, 7, none⟩ (.slice a7 p.slots.length n7)) w4.heap.size 48 (.slice a7 p.slots.length n7) p.slots) := O7.out.keep_set _ _ HQ.out.2); (obtain ⟨w9, e9, y9, b9⟩ := new_polg (w7.setCell ⟨w3.heap.size, 7, none⟩ (.slice a7 p.slots.length n7)) w7.heap.size (size_set _ _ _) (plC p a1 a2 c1 c2) rfl); (have E9 := Lib.hid e9); (have V9 := Lib.hid (old_block V8.out b9)); (have X9 := Lib.hid (old_block X8.out b9)); (have Y9 := Lib.hid y9); (have B9 := Lib.hid (bel2 B8.out b9)); (have O5 := Lib.hid (O5'.out.below b9)); (have O7 := Lib.hid (O7'.out.below b9)); (have k90 : w9.cell? ⟨w.heap.size, 0, none⟩ = some (.int .i64 p.kind) := plC_cell V9.out 0 _ rfl); (have k91 : w9.cell? ⟨w3.heap.size, 1, none⟩ = some (.int .i64 p.target) := plC_cell X9.out 1 _ rfl); (have z91 := frozen_of_row _ _ 1 _ _ X9.out); (have XA := Lib.hid (set_cellP (j := 1) (v := .int .i64 0) (cs' := plC { p with target := 0 } a5 a7 n5 n7) X9.out rfl)); (have VA := Lib.hid (set_far (g := w3.heap.size) (j := 1) (v := .int .i64 0) V9.out (by have := HQ.out.1; omega))); (have OA5 : Hid (OwnP (w9.setCell ⟨w3.heap.size, 1, none⟩ (.int .i64 0)) w4.heap.size 46 (.slice a5 p.bands.length n5) p.bands) := O5.out.keep_set _ _ HQ.out.2); (have OA7 : Hid (OwnP (w9.setCell ⟨w3.heap.size, 1, none⟩ (.int .i64 0)) w4.heap.size 48 (.slice a7 p.slots.length n7) p.slots) := O7.out.keep_set _ _ HQ.out.2); (have BA := Lib.hid (B9.out |>.setCell (p := ⟨w3.heap.size, 1, none⟩) (Nat.le_of_lt HQ.out.1) (.int .i64 0))); (clear hp7 hb7 hg7 ho7 e9 y9 b9 X5 V5 X6 V6 V7 X7)) | (refine wpList_load_row (by rfl) 25 (.tmp 2) (by rfl) w.heap.size (by rfl) 25 (plC p a1 a2 c1 c2) (0, 0) _ V8.out Try.underlying25 (by rfl) (by kernel_rfl) ?_) | (refine wpList_store_mid (by rfl) 25 (.tmp 7) (.tmp 30) (by rfl) w7.heap.size 0 (plC p a1 a2 c1 c2) (by rfl) (by rfl) (there_newg _ _ (size_set _ _ _) _) (by kernel_rfl) (by kernel_rfl) ?_; rw [E9.out]) | (refine wpList_load_rowG ?_ 25 (.tmp 6) (by rfl) w3.heap.size (by rfl) 25 (plC { p with target := 0 } a5 a7 n5 n7) (0, 0) _ XA.out Try.underlying25 (by rfl) (by kernel_rfl) ?_; focus (first | rfl | (simp [Region.wanted, yielded]; done) | (simp [Region.wanted, yielded, *]; done))))
  refine (policy_any { p with target := 0 } OA5.out.prow_ OA7.out.prow_).mono ?_
  rintro r wb ⟨rfl, hb⟩
  have VB := Lib.hid (old_block VA.out hb)
  have BB := Lib.hid (bel2 BA.out hb)
  have hq := pol_plain HP.out HK.out.1 HK.out.2
  rw [hq.1]
  have kb2 : wb.cell? ⟨w.heap.size, 2, none⟩ = some (.slice a1 0 c1) := by
    have h2 : (plC p a1 a2 c1 c2)[2]? = some (.slice a1 0 c1) := by unfold plC; rw [hq.2.1]; rfl
    exact plC_cell VB.out 2 _ h2
  have kb7 : wb.cell? ⟨w.heap.size, 7, none⟩ = some (.slice a2 0 c2) := by
    have h2 : (plC p a1 a2 c1 c2)[7]? = some (.slice a2 0 c2) := by unfold plC; rw [hq.2.2]; rfl
    exact plC_cell VB.out 7 _ h2
  clear hb hq
  go_wp2
  go_ret
  exact ⟨rfl, BB.out⟩
set_option linter.unusedSimpArgs false in
set_option maxRecDepth 100000 in
set_option maxHeartbeats 6400000 in
theorem eventPolicies_four {w : World} {a1 a2 : Option Addr} {c1 c2 : Nat} (p : Pl) (r1 : PRow w a1 p.bands.length c1 p.bands) (r2 : PRow w a2 p.slots.length c2 p.slots) (at_ : Int) (hat : 0 ≤ at_ ∧ at_ ≤ 255) (hk : p.kind = 4) :
    Calls Try.prog 7 #[plV p a1 a2 c1 c2, .int .u8 at_] w fun r w' => r = .returned (.bool true) ∧ Below w.heap.size w w' := by
  have hbv : (w.alloc (.cells (plC p a1 a2 c1 c2) 25)).heap[w.heap.size]? = some (.cells (plC p a1 a2 c1 c2) 25 (0, 0)) := heap_alloc_new _ _
  have hbb : Below w.heap.size w (w.alloc (.cells (plC p a1 a2 c1 c2) 25)) := bel1 (Below.refl _ _) _
  have HB := Lib.hid (And.intro hbv hbb)
  have HR := Lib.hid (And.intro r1 r2)
  have HA := Lib.hid hat
  clear hbv hbb r1 r2 hat
  have HK := Lib.hid hk
  have n2 : (p.kind == 2) = false := by rw [hk]; rfl
  have n4 : (p.kind == 4) = true := by rw [hk]; rfl
  clear hk
  unfold plV
  go_enter Try.func7, Try.ntmps7
  go_wp2_with fail
  refine (head_any _).mono ?_
  rintro r w1 ⟨rfl, h1⟩
  have V1 := Lib.hid (old_block HB.out.1 h1)
  have B1 := Lib.hid (bel2 HB.out.2 h1)
  clear h1 HB
  go_wp2_with (first | (refine wpList_load_row (by rfl) 25 (.tmp 2) (by rfl) w.heap.size (by rfl) 25 #[.int .i64 p.kind, .int .i64 p.target, .slice a1 p.bands.length c1, .int .i64 p.kp, .int .i64 p.ki, .int .i64 p.kd, .int .i64 p.period, .slice a2 p.slots.length c2] (0, 0) _ V1.out Try.underlying25 (by rfl) (by kernel_rfl) ?_))
  refine (great_any { ofKind 0 with pol := p } a1 a2 none c1 c2 0 _).mono ?_
  rintro r w2 ⟨rfl, h2⟩
  have V2 := Lib.hid (old_block V1.out h2)
  have B2 := Lib.hid (bel2 B1.out h2)
  clear h2 V1 B1
  cases hg : grtR { ofKind 0 with pol := p }
  rotate_left
  · clear hg
    go_wp2
    go_ret
    exact ⟨rfl, B2.out⟩
  clear hg
  go_wp2_with (first | (refine wpList_load_rowG ?_ 25 (.tmp 2) (by rfl) w.heap.size (by rfl) 25 (plC p a1 a2 c1 c2) (0, 0) _ V2.out Try.underlying25 (by rfl) (by kernel_rfl) ?_; focus (first | rfl | (simp [Region.wanted, yielded]; done) | (simp [Region.wanted, yielded, *]; done))))
  refine (policy_any p (HR.out.1.on B2.out) (HR.out.2.on B2.out)).mono ?_
  rintro r w3 ⟨rfl, h3⟩
  have V3 := Lib.hid (old_block V2.out h3)
  have B3 := Lib.hid (bel2 B2.out h3)
  clear h3 V2 B2
  cases hp : polR p
  · clear hp
    go_wp2
    go_ret
    exact ⟨rfl, B3.out⟩
  have HP := Lib.hid hp
  clear hp
  have hlen : p.bands.length ≤ 8 ∧ p.slots.length ≤ 8 := by
    have hp := HP.out
    by_cases k2 : p.kind = 2
    · have := pol_two hp k2
      exact ⟨by omega, by rw [this.2.2.2]; simp⟩
    · by_cases k4 : p.kind = 4
      · have := pol_four hp k4
        exact ⟨by rw [this.2.2]; simp, by omega⟩
      · have := pol_plain hp k2 k4
        exact ⟨by rw [this.2.1]; simp, by rw [this.2.2]; simp⟩
  have HL := Lib.hid hlen
  clear hlen
  obtain ⟨w4, e4, x4, b4⟩ := new_pol w3 (plC p a1 a2 c1 c2) rfl
  have HE := Lib.hid e4
  have q01 : w.heap.size < w3.heap.size := lt_of_heap V3.out
  have B4 := Lib.hid (bel2 B3.out b4)
  have V4 := Lib.hid (old_block V3.out b4)
  have X4 := Lib.hid x4
  have q14 : w3.heap.size < w4.heap.size := lt_of_heap X4.out
  have HQ := Lib.hid (And.intro q01 q14)
  have k42 : (w4.alloc (.cells #[] 46)).cell? ⟨w.heap.size, 2, none⟩ = some (.slice a1 p.bands.length c1) := plC_cell (old_block V4.out (bel1 (Below.refl _ _) _)) 2 _ rfl
  clear e4 x4 b4 q01 q14 B3
  go_wp2_with (first | (refine wpList_load_row (by rfl) 25 (.tmp 2) (by rfl) w.heap.size (by rfl) 25 (plC p a1 a2 c1 c2) (0, 0) _ V3.out Try.underlying25 (by rfl) (by kernel_rfl) ?_) | (refine wpList_store_mid (by rfl) 25 (.tmp 6) (.tmp 19) (by rfl) w3.heap.size 0 (plC p a1 a2 c1 c2) (by rfl) (by rfl) (there_new _ _) (by kernel_rfl) (by kernel_rfl) ?_; rw [HE.out]) | (at_builtin; refine wpList_append_pairs rfl (.tmp 20) (.tmp 22) 22 rfl w4.heap.size 46 Try.underlying22 info_band (.slice (some ⟨w4.heap.size, 0, none⟩) 0 0) [] (by rfl) (OwnP.lit_ _ _ _ (Nat.le_refl _)) a1 _ c1 p.bands (by rfl) ((HR.out.1.on B4.out).on (bel1 (Below.refl _ _) _)) (by have := HL.out; simp; omega) (by simp) ?_; (intro v5 w5 ho5 hg5 _); (rw [List.nil_append] at ho5); (obtain ⟨a5, n5, hv5, hp5⟩ := ho5.prow); (subst hv5); (have hb5 : Below w4.heap.size w4 w5 := grownBy_below (bel1 (Below.refl w4.heap.size w4) _) hg5 (by simp) (Nat.le_refl _)); (have V5 := Lib.hid (old_block V4.out hb5)); (have X5 := Lib.hid (old_block X4.out hb5)); (have O5 := Lib.hid ho5); (have H5 := Lib.hid hb5); (have k52 : w5.cell? ⟨w3.heap.size, 2, none⟩ = some (.slice a1 p.bands.length c1) := plC_cell X5.out 2 _ rfl); (have z52 := frozen_of_row _ _ 2 _ _ X5.out); (have X6 := Lib.hid (set_cellP (j := 2) (v := .slice a5 p.bands.length n5) (cs' := plC p a5 a2 n5 c2) X5.out rfl)); (have V6 := Lib.hid (set_far (g := w3.heap.size) (j := 2) (v := .slice a5 p.bands.length n5) V5.out (by have := HQ.out.1; omega))); (have k67 : ((w5.setCell ⟨w3.heap.size, 2, none⟩ (.slice a5 p.bands.length n5)).alloc (.cells #[] 48)).cell? ⟨w.heap.size, 7, none⟩ = some (.slice a2 p.slots.length c2) := plC_cell (old_block V6.out (bel1 (Below.refl _ _) _)) 7 _ rfl); (have B6 := Lib.hid (bel2 B4.out hb5 |>.setCell (p := ⟨w3.heap.size, 2, none⟩) (Nat.le_of_lt HQ.out.1) (.slice a5 p.bands.length n5))); (have s6 : w4.heap.size ≤ (w5.setCell ⟨w3.heap.size, 2, none⟩ (.slice a5 p.bands.length n5)).heap.size := by simpa using hb5.size); (have H6 := Lib.hid s6); (clear hp5 hb5 hg5 ho5 s6)) | (at_builtin; refine wpList_append_pairs rfl (.tmp 25) (.tmp 27) 23 rfl w4.heap.size 48 Try.underlying23 info_slot (.slice (some ⟨w5.heap.size, 0, none⟩) 0 0) [] (by rfl) (OwnP.lit_g _ _ _ _ (size_set _ _ _) H6.out) a2 _ c2 p.slots (by rfl) ((HR.out.2.on B6.out).on (bel1 (Below.refl _ _) _)) (by have := HL.out; simp; omega) (by have := H6.out; simp at this ⊢; omega) ?_; (intro v7 w7 ho7 hg7 _); (rw [List.nil_append] at ho7); (obtain ⟨a7, n7, hv7, hp7⟩ := ho7.prow); (subst hv7); (have hb7 : Below (w5.setCell ⟨w3.heap.size, 2, none⟩ (.slice a5 p.bands.length n5)).heap.size (w5.setCell ⟨w3.heap.size, 2, none⟩ (.slice a5 p.bands.length n5)) w7 := grownBy_below (bel1 (Below.refl (w5.setCell ⟨w3.heap.size, 2, none⟩ (.slice a5 p.bands.length n5)).heap.size (w5.setCell ⟨w3.heap.size, 2, none⟩ (.slice a5 p.bands.length n5))) _) hg7 (by simp) (Nat.le_of_eq (size_set _ _ _))); (have V7 := Lib.hid (old_block V6.out hb7)); (have X7 := Lib.hid (old_block X6.out hb7)); (have O7 := Lib.hid ho7); (have k77 : w7.cell? ⟨w3.heap.size, 7, none⟩ = some (.slice a2 p.slots.length c2) := plC_cell X7.out 7 _ rfl); (have z77 := frozen_of_row _ _ 7 _ _ X7.out); (have X8 := Lib.hid (set_cellP (j := 7) (v := .slice a7 p.slots.length n7) (cs' := plC p a5 a7 n5 n7) X7.out rfl)); (have V8 := Lib.hid (set_far (g := w3.heap.size) (j := 7) (v := .slice a7 p.slots.length n7) V7.out (by have := HQ.out.1; omega))); (have B8 := Lib.hid (bel2 B6.out hb7 |>.setCell (p := ⟨w3.heap.size, 7, none⟩) (Nat.le_of_lt HQ.out.1) (.slice a7 p.slots.length n7))); (have O5' : Hid (OwnP (w7.setCell ⟨w3.heap.size, 7, none⟩ (.slice a7 p.slots.length n7)) w4.heap.size 46 (.slice a5 p.bands.length n5) p.bands) := ((O5.out.keep_set _ _ HQ.out.2).below hb7).keep_set _ _ HQ.out.2); (have O7' : Hid (OwnP (w7.setCell ⟨w3.heap.size, 7, none⟩ (.slice a7 p.slots.length n7)) w4.heap.size 48 (.slice a7 p.slots.length n7) p.slots) := O7.out.keep_set _ _ HQ.out.2); (obtain ⟨w9, e9, y9, b9⟩ := new_polg (w7.setCell ⟨w3.heap.size, 7, none⟩ (.slice a7 p.slots.length n7)) w7.heap.size (size_set _ _ _) (plC p a1 a2 c1 c2) rfl); (have E9 := Lib.hid e9); (have V9 := Lib.hid (old_block V8.out b9)); (have X9 := Lib.hid (old_block X8.out b9)); (have Y9 := Lib.hid y9); (have B9 := Lib.hid (bel2 B8.out b9)); (have O5 := Lib.hid (O5'.out.below b9)); (have O7 := Lib.hid (O7'.out.below b9)); (have k90 : w9.cell? ⟨w.heap.size, 0, none⟩ = some (.int .i64 p.kind) := plC_cell V9.out 0 _ rfl); (have B98 := Lib.hid b9); (have H75 := Lib.hid (show w5.heap.size ≤ w7.heap.size by have h1 := hb7.size; have h2 := size_set w5 ⟨w3.heap.size, 2, none⟩ (.slice a5 p.bands.length n5); omega)); (clear hp7 hb7 hg7 ho7 e9 y9 b9 X5 V5 X6 V6 V7 X7)) | (refine wpList_load_row (by rfl) 25 (.tmp 2) (by rfl) w.heap.size (by rfl) 25 (plC p a1 a2 c1 c2) (0, 0) _ V8.out Try.underlying25 (by rfl) (by kernel_rfl) ?_) | (refine wpList_store_mid (by rfl) 25 (.tmp 7) (.tmp 30) (by rfl) w7.heap.size 0 (plC p a1 a2 c1 c2) (by rfl) (by rfl) (there_newg _ _ (size_set _ _ _) _) (by kernel_rfl) (by kernel_rfl) ?_; rw [E9.out]))
  obtain ⟨k, hk⟩ : ∃ k, p.slots.length = k + 1 := ⟨p.slots.length - 1, by have := pol_four HP.out HK.out; omega⟩
  obtain ⟨b, o, ea, hbl, hcc⟩ := HR.out.2.cell (by omega)
  have kc := hcc k (by omega)
  obtain ⟨z, hz⟩ : ∃ z, z = p.slots.getD k (0, 0) := ⟨_, rfl⟩
  rw [← hz] at kc
  have HZ := Lib.hid hz
  clear hz
  have HKB : Hid (k ≤ 7) := by have := HL.out; show k ≤ 7; omega
  have HLK := Lib.hid hk
  have hw : IntKind.i64.wrap (k : Int) = (k : Int) := by have := HKB.out; rw [IntKind.wrap_i64]; omega
  have hk1 : (k : Int) < (k : Int) + 1 := by omega
  have hq2 : w.heap.size < w7.heap.size := by have h1 := HQ.out; have h2 := H6.out; have h3 := size_set w7 ⟨w3.heap.size, 7, none⟩ (.slice a7 p.slots.length n7); have h4 := lt_of_heap V8.out; omega
  have HRk : Hid (∀ x, Below w9.heap.size w9 x → PRow x a2 (k + 1) c2 p.slots) := fun x hb => by have h := HR.out.2.on (bel2 B9.out hb); rw [hk] at h; exact h
  have hS : ∀ x, Below w.heap.size w x → x.cell? ⟨w.heap.size, 7, none⟩ = some (.slice a2 (k + 1) c2) → x.cell? ⟨w.heap.size, 7, none⟩ = some (.slice a2 (k + 1) c2) ∧ x.cell? ⟨b, o + k * 2, none⟩ = some (.int .i64 z.1) ∧ x.cell? ⟨b, o + k * 2 + 1, none⟩ = some (.int .i64 z.2) := fun x hb h0 => ⟨h0, (hb.cell (p := ⟨b, o + k * 2, none⟩) hbl).trans kc.1, (hb.cell (p := ⟨b, o + k * 2 + 1, none⟩) hbl).trans kc.2⟩
  have HSx : Hid (∀ x, Below w9.heap.size w9 x → x.cell? ⟨w.heap.size, 7, none⟩ = some (.slice a2 (k + 1) c2) ∧ x.cell? ⟨b, o + k * 2, none⟩ = some (.int .i64 z.1) ∧ x.cell? ⟨b, o + k * 2 + 1, none⟩ = some (.int .i64 z.2)) := fun x hb => hS x (bel2 B9.out hb) (by rw [← hk]; exact plC_cell (old_block V9.out hb) 7 _ rfl)
  have HSf : Hid (∀ x, Below w9.heap.size w9 x → ∀ u, (fun x => x.cell? ⟨w.heap.size, 7, none⟩ = some (.slice a2 (k + 1) c2) ∧ x.cell? ⟨b, o + k * 2, none⟩ = some (.int .i64 z.1) ∧ x.cell? ⟨b, o + k * 2 + 1, none⟩ = some (.int .i64 z.2)) (x.setCell ⟨w7.heap.size, 7, none⟩ u)) := fun x hb u => hS _ ((bel2 B9.out hb).setCell (p := ⟨w7.heap.size, 7, none⟩) (Nat.le_of_lt hq2) u) (by rw [← hk]; exact plC_cell (set_far (old_block V9.out hb) (by omega)) 7 _ rfl)
  have HCC := Lib.hid hcc
  have HBL := Lib.hid hbl
  clear hS kc hcc
  subst ea
  clear hk hq2
  go_cut [] from 98 to 112 (fun wx => ∃ ay ny, wx.heap[w7.heap.size]? = some (.cells (plC { p with slots := p.slots ++ [z] } a1 ay c1 ny) 25 (0, 0)) ∧ PRow wx ay (([] ++ p.slots) ++ [z]).length ny (([] ++ p.slots) ++ [z]) ∧ (∀ b o, ay = some ⟨b, o, none⟩ → w9.heap.size ≤ b) ∧ Below (w7.setCell ⟨w3.heap.size, 7, none⟩ (.slice a7 p.slots.length n7)).heap.size (w7.setCell ⟨w3.heap.size, 7, none⟩ (.slice a7 p.slots.length n7)) wx)
  case first =>
    refine wp_region_held_drew (S := fun x => x.cell? ⟨w.heap.size, 7, none⟩ = some (.slice (some ⟨b, o, none⟩) (k + 1) c2) ∧ x.cell? ⟨b, o + k * 2, none⟩ = some (.int .i64 z.1) ∧ x.cell? ⟨b, o + k * 2 + 1, none⟩ = some (.int .i64 z.2)) (by kernel_rfl) (HSx.out _ (Below.drew (Below.refl _ _))) (fun hHeld => ?_)
    have HB0 : Below w9.heap.size w9 w9.drew := Below.drew (Below.refl _ _)
    refine wpAnyH_take (i := 1) (v := ?_) rfl (by kernel_rfl) (by kernel_rfl) (by kernel_rfl) (fun _ _ _ h => h) (Or.inl ⟨by rfl, ?_⟩) (by assumption) ?_
    rotate_left
    · intro w hSw
      (try dsimp only at hSw)
      go_simp
      all_goals with_reducible rfl
    try simp only [Act.put, List.getElem_toArray, List.getElem_cons_succ, List.getElem_cons_zero, List.setIfInBounds_toArray, List.set_cons_zero, List.set_cons_succ]
    refine wpAnyH_take (i := 2) (v := ?_) rfl (by kernel_rfl) (by kernel_rfl) (by kernel_rfl) (fun _ _ _ h => h) (Or.inl ⟨by rfl, ?_⟩) (by assumption) ?_
    rotate_left
    · intro w hSw
      (try dsimp only at hSw)
      go_simp
      all_goals with_reducible rfl
    try simp only [Act.put, List.getElem_toArray, List.getElem_cons_succ, List.getElem_cons_zero, List.setIfInBounds_toArray, List.set_cons_zero, List.set_cons_succ]
    refine wpAnyH_take (i := 4) (v := ?_) rfl (by kernel_rfl) (by kernel_rfl) (by kernel_rfl) (fun _ _ _ h => h) (Or.inl ⟨by rfl, ?_⟩) (by assumption) ?_
    rotate_left
    · intro w hSw
      (try dsimp only at hSw)
      go_simp
      all_goals with_reducible rfl
    try simp only [Act.put, List.getElem_toArray, List.getElem_cons_succ, List.getElem_cons_zero, List.setIfInBounds_toArray, List.set_cons_zero, List.set_cons_succ]
    refine wpAnyH_take (i := 5) (v := ?_) rfl (by kernel_rfl) (by kernel_rfl) (by kernel_rfl) (fun _ _ _ h => h) (Or.inl ⟨by rfl, ?_⟩) (by assumption) ?_
    rotate_left
    · intro w hSw
      (try dsimp only at hSw)
      go_simp
      all_goals with_reducible rfl
    try simp only [Act.put, List.getElem_toArray, List.getElem_cons_succ, List.getElem_cons_zero, List.setIfInBounds_toArray, List.set_cons_zero, List.set_cons_succ]
    refine wpAnyH_take (i := 6) (v := ?_) rfl (by kernel_rfl) (by kernel_rfl) (by kernel_rfl) (fun _ _ _ h => h) (Or.inl ⟨by rfl, ?_⟩) (by assumption) ?_
    rotate_left
    · intro w hSw
      (try dsimp only at hSw)
      go_simp
      all_goals with_reducible rfl
    try simp only [Act.put, List.getElem_toArray, List.getElem_cons_succ, List.getElem_cons_zero, List.setIfInBounds_toArray, List.set_cons_zero, List.set_cons_succ]
    refine wpAnyH_take (i := 7) (v := ?_) rfl (by kernel_rfl) (by kernel_rfl) (by kernel_rfl) (fun _ _ _ h => h) (Or.inl ⟨by rfl, ?_⟩) (by assumption) ?_
    rotate_left
    · intro w hSw
      (try dsimp only at hSw)
      go_simp
      all_goals with_reducible rfl
    try simp only [Act.put, List.getElem_toArray, List.getElem_cons_succ, List.getElem_cons_zero, List.setIfInBounds_toArray, List.set_cons_zero, List.set_cons_succ]
    refine wpAnyH_take (i := 8) (v := ?_) rfl (by kernel_rfl) (by kernel_rfl) (by kernel_rfl) (fun _ _ _ h => h) (Or.inl ⟨by rfl, ?_⟩) (by assumption) ?_
    rotate_left
    · intro w hSw
      (try dsimp only at hSw)
      go_simp
      all_goals with_reducible rfl
    try simp only [Act.put, List.getElem_toArray, List.getElem_cons_succ, List.getElem_cons_zero, List.setIfInBounds_toArray, List.set_cons_zero, List.set_cons_succ]
    refine wpAnyH_take (i := 9) (v := ?_) rfl (by kernel_rfl) (by kernel_rfl) (by kernel_rfl) (fun _ _ _ h => h) (Or.inl ⟨by rfl, ?_⟩) (by assumption) ?_
    rotate_left
    · intro w hSw
      (try dsimp only at hSw)
      go_simp
      all_goals with_reducible rfl
    try simp only [Act.put, List.getElem_toArray, List.getElem_cons_succ, List.getElem_cons_zero, List.setIfInBounds_toArray, List.set_cons_zero, List.set_cons_succ]
    refine wpAnyH_take (i := 10) (v := ?_) rfl (by kernel_rfl) (by kernel_rfl) (by kernel_rfl) (fun _ _ _ h => h) (Or.inl ⟨by rfl, ?_⟩) (by assumption) ?_
    rotate_left
    · intro w hSw
      (try dsimp only at hSw)
      go_simp
      all_goals with_reducible rfl
    try simp only [Act.put, List.getElem_toArray, List.getElem_cons_succ, List.getElem_cons_zero, List.setIfInBounds_toArray, List.set_cons_zero, List.set_cons_succ]
    refine wpAnyH_take (i := 11) (v := ?_) rfl (by kernel_rfl) (by kernel_rfl) (by kernel_rfl) (fun _ _ _ h => h) (Or.inl ⟨by rfl, ?_⟩) (by assumption) ?_
    rotate_left
    · intro w hSw
      (try dsimp only at hSw)
      go_simp
      all_goals with_reducible rfl
    try simp only [Act.put, List.getElem_toArray, List.getElem_cons_succ, List.getElem_cons_zero, List.setIfInBounds_toArray, List.set_cons_zero, List.set_cons_succ]
    refine wpAnyH_ready (rs := [0, 12]) (by kernel_rfl) (by simp) ?_
    refine AllReadyH.cons rfl (fun K hK => ?_) (AllReadyH.cons rfl (fun K hK => ?_) AllReadyH.nil)
    · rw [if_pos (by rfl)]
      go_simp
      obtain ⟨x1, e1⟩ : ∃ x, x = (w9.alloc (.cells #[] 48)).drew := ⟨_, rfl⟩
      rw [← e1]
      have HBx1 : Below w9.heap.size w9 x1 := by rw [e1]; exact ((Below.refl w9.heap.size w9).alloc (Nat.le_refl _) _).drew
      have ho1 : OwnP x1 w9.heap.size 48 (.slice (some ⟨w9.heap.size, 0, none⟩) 0 0) [] := by rw [e1]; exact OwnP.lit_ _ _ _ (Nat.le_refl _)
      clear e1
      refine hK.out _ _ ?_ (fun hHeld => ?_)
      · exact HSx.out _ HBx1
      clear hK K
      try simp only [Act.put, List.getElem_toArray, List.getElem_cons_succ, List.getElem_cons_zero, List.setIfInBounds_toArray, List.set_cons_zero, List.set_cons_succ]
      refine wpAnyH_ready (rs := [3, 12]) (by kernel_rfl) (by simp) ?_
      refine AllReadyH.cons rfl (fun K hK => ?_) (AllReadyH.cons rfl (fun K hK => ?_) AllReadyH.nil)
      · rw [if_pos (by rfl)]
        refine wp_append_pairs (.tmp 98) (.tmp 100) 23 rfl w9.heap.size 48 Try.underlying23 info_slot (.slice (some ⟨w9.heap.size, 0, none⟩) 0 0) [] (by rfl) ho1 (some ⟨b, o, none⟩) (k + 1) c2 p.slots (by rfl) (HRk.out _ HBx1) (by have := HKB.out; simp; omega) HBx1.size ?_
        intro v2 x2 ho2 hg2 hw2
        have HBx2 : Below w9.heap.size w9 x2 := grownBy_belowO HBx1 hg2 HBx1.size (fun k hk => (World.ownsRow.lt ho1 k hk).1)
        refine hK.out _ _ ?_ (fun hHeld => ?_)
        · exact HSx.out _ HBx2
        clear hK K
        try simp only [Act.put, List.getElem_toArray, List.getElem_cons_succ, List.getElem_cons_zero, List.setIfInBounds_toArray, List.set_cons_zero, List.set_cons_succ]
        refine wpAnyH_ready (rs := [12]) (by kernel_rfl) (by simp) ?_
        refine AllReadyH.cons rfl (fun K hK => ?_) AllReadyH.nil
        rw [if_pos (by rfl)]
        go_simp
        obtain ⟨x3, e3⟩ : ∃ x, x = x2.alloc (.cells #[.int .i64 z.1, .int .i64 z.2] 48) := ⟨_, rfl⟩
        rw [← e3]
        have HBx3 : Below w9.heap.size w9 x3 := by rw [e3]; exact HBx2.alloc HBx2.size _
        have ho3 : OwnP x3 w9.heap.size 48 v2 ([] ++ p.slots) := by rw [e3]; exact World.ownsRow.alloc ho2 _
        have hl3 : x3.heap[x2.heap.size]? = some (.cells #[.int .i64 z.1, .int .i64 z.2] 48 (0, 0)) := by rw [e3]; exact heap_alloc_new _ _
        have ne3 : Value.ownBlock v2 ≠ some x2.heap.size := fun e => by have h1 := (World.ownsRow.lt ho2 _ e).2; omega
        clear e3
        refine hK.out _ _ ?_ (fun hHeld => ?_)
        · exact HSx.out _ HBx3
        clear hK K
        try simp only [Act.put, List.getElem_toArray, List.getElem_cons_succ, List.getElem_cons_zero, List.setIfInBounds_toArray, List.set_cons_zero, List.set_cons_succ]
        refine wpAnyH_ready (rs := [13]) (by kernel_rfl) (by simp) ?_
        refine AllReadyH.cons rfl (fun K hK => ?_) AllReadyH.nil
        rw [if_pos (by rfl)]
        refine wp_append_pairs (.tmp 101) (.tmp 110) 23 rfl w9.heap.size 48 Try.underlying23 info_slot v2 ([] ++ p.slots) (by rfl) ho3 (some ⟨x2.heap.size, 0, none⟩) 1 1 [z] (by rfl) (PRow.one_ hl3) (by have := HKB.out; have := HLK.out; simp; omega) HBx3.size ?_
        intro v4 x4 ho4 hg4 hw4
        have HBx4 : Below w9.heap.size w9 x4 := grownBy_belowO HBx3 hg4 HBx3.size (fun k hk => (World.ownsRow.lt ho3 k hk).1)
        refine hK.out _ _ ?_ (fun hHeld => ?_)
        · exact HSx.out _ HBx4
        clear hK K
        try simp only [Act.put, List.getElem_toArray, List.getElem_cons_succ, List.getElem_cons_zero, List.setIfInBounds_toArray, List.set_cons_zero, List.set_cons_succ]
        refine wpAnyH_take (i := 14) (v := ?_) rfl (by kernel_rfl) (by kernel_rfl) (by kernel_rfl) (fun _ _ _ h => h) (Or.inl ⟨by rfl, ?_⟩) (by assumption) ?_
        rotate_left
        · intro w hSw
          (try dsimp only at hSw)
          go_simp
          all_goals with_reducible rfl
        try simp only [Act.put, List.getElem_toArray, List.getElem_cons_succ, List.getElem_cons_zero, List.setIfInBounds_toArray, List.set_cons_zero, List.set_cons_succ]
        obtain ⟨ay, ny, hvy, hpy⟩ := ho4.prow
        subst hvy
        have hfy := HSf.out _ HBx4 (.slice ay (([] ++ p.slots) ++ [z]).length ny)
        have ky := plC_cell (old_block Y9.out HBx4) 7 _ rfl
        have zy := frozen_of_row _ _ 7 _ _ (old_block Y9.out HBx4)
        have yy := set_cellP (j := 7) (v := .slice ay (([] ++ p.slots) ++ [z]).length ny) (cs' := plC { p with slots := p.slots ++ [z] } a1 ay c1 ny) (old_block Y9.out HBx4) rfl
        have By : Below (w7.setCell ⟨w3.heap.size, 7, none⟩ (.slice a7 p.slots.length n7)).heap.size (w7.setCell ⟨w3.heap.size, 7, none⟩ (.slice a7 p.slots.length n7)) (x4.setCell ⟨w7.heap.size, 7, none⟩ (.slice ay (([] ++ p.slots) ++ [z]).length ny)) := (bel2 B98.out HBx4).setCell (p := ⟨w7.heap.size, 7, none⟩) (Nat.le_of_eq (size_set _ _ _)) _
        have hln : (([] ++ p.slots) ++ [z]).length = p.slots.length + 1 := by simp
        rw [hln] at hfy yy By
        clear hln
        refine wpAnyH_ready (rs := [15]) (by kernel_rfl) (by simp) ?_
        refine AllReadyH.cons rfl (fun K hK => ?_) AllReadyH.nil
        rw [if_pos (by rfl)]
        go_simp
        refine hK.out _ _ ?_ (fun hHeld => ?_)
        · exact hfy
        clear hK K
        try simp only [Act.put, List.getElem_toArray, List.getElem_cons_succ, List.getElem_cons_zero, List.setIfInBounds_toArray, List.set_cons_zero, List.set_cons_succ]
        refine wpAnyH_done (by kernel_rfl) ?_ _
        go_wp2_with fail
        go_meet
        case rel => exact ⟨ay, ny, yy, (ho4.prow_).at_set (by have h1 := ho4.at_ge; have h2 := lt_of_heap Y9.out; intro b o e; have := h1 b o e; omega), ho4.at_ge, By⟩
      · rw [if_pos (by rfl)]
        go_simp
        obtain ⟨x5, e5⟩ : ∃ x, x = x1.alloc (.cells #[.int .i64 z.1, .int .i64 z.2] 48) := ⟨_, rfl⟩
        rw [← e5]
        have HBx5 : Below w9.heap.size w9 x5 := by rw [e5]; exact HBx1.alloc HBx1.size _
        have ho5 : OwnP x5 w9.heap.size 48 (.slice (some ⟨w9.heap.size, 0, none⟩) 0 0) [] := by rw [e5]; exact World.ownsRow.alloc ho1 _
        have hl5 : x5.heap[x1.heap.size]? = some (.cells #[.int .i64 z.1, .int .i64 z.2] 48 (0, 0)) := by rw [e5]; exact heap_alloc_new _ _
        have ne5 : Value.ownBlock (.slice (some ⟨w9.heap.size, 0, none⟩) 0 0) ≠ some x1.heap.size := fun e => by have h1 := (World.ownsRow.lt ho1 _ e).2; omega
        clear e5
        refine hK.out _ _ ?_ (fun hHeld => ?_)
        · exact HSx.out _ HBx5
        clear hK K
        try simp only [Act.put, List.getElem_toArray, List.getElem_cons_succ, List.getElem_cons_zero, List.setIfInBounds_toArray, List.set_cons_zero, List.set_cons_succ]
        refine wpAnyH_ready (rs := [3]) (by kernel_rfl) (by simp) ?_
        refine AllReadyH.cons rfl (fun K hK => ?_) AllReadyH.nil
        rw [if_pos (by rfl)]
        refine wp_append_pairs (.tmp 98) (.tmp 100) 23 rfl w9.heap.size 48 Try.underlying23 info_slot (.slice (some ⟨w9.heap.size, 0, none⟩) 0 0) [] (by rfl) ho5 (some ⟨b, o, none⟩) (k + 1) c2 p.slots (by rfl) (HRk.out _ HBx5) (by have := HKB.out; simp; omega) HBx5.size ?_
        intro v6 x6 ho6 hg6 hw6
        have HBx6 : Below w9.heap.size w9 x6 := grownBy_belowO HBx5 hg6 HBx5.size (fun k hk => (World.ownsRow.lt ho5 k hk).1)
        have hl6 := (hg6.block _ (lt_of_heap hl5) (fun e => ne5 e.symm)).trans hl5
        refine hK.out _ _ ?_ (fun hHeld => ?_)
        · exact HSx.out _ HBx6
        clear hK K
        try simp only [Act.put, List.getElem_toArray, List.getElem_cons_succ, List.getElem_cons_zero, List.setIfInBounds_toArray, List.set_cons_zero, List.set_cons_succ]
        refine wpAnyH_ready (rs := [13]) (by kernel_rfl) (by simp) ?_
        refine AllReadyH.cons rfl (fun K hK => ?_) AllReadyH.nil
        rw [if_pos (by rfl)]
        refine wp_append_pairs (.tmp 101) (.tmp 110) 23 rfl w9.heap.size 48 Try.underlying23 info_slot v6 ([] ++ p.slots) (by rfl) ho6 (some ⟨x1.heap.size, 0, none⟩) 1 1 [z] (by rfl) (PRow.one_ hl6) (by have := HKB.out; have := HLK.out; simp; omega) HBx6.size ?_
        intro v7 x7 ho7 hg7 hw7
        have HBx7 : Below w9.heap.size w9 x7 := grownBy_belowO HBx6 hg7 HBx6.size (fun k hk => (World.ownsRow.lt ho6 k hk).1)
        refine hK.out _ _ ?_ (fun hHeld => ?_)
        · exact HSx.out _ HBx7
        clear hK K
        try simp only [Act.put, List.getElem_toArray, List.getElem_cons_succ, List.getElem_cons_zero, List.setIfInBounds_toArray, List.set_cons_zero, List.set_cons_succ]
        refine wpAnyH_take (i := 14) (v := ?_) rfl (by kernel_rfl) (by kernel_rfl) (by kernel_rfl) (fun _ _ _ h => h) (Or.inl ⟨by rfl, ?_⟩) (by assumption) ?_
        rotate_left
        · intro w hSw
          (try dsimp only at hSw)
          go_simp
          all_goals with_reducible rfl
        try simp only [Act.put, List.getElem_toArray, List.getElem_cons_succ, List.getElem_cons_zero, List.setIfInBounds_toArray, List.set_cons_zero, List.set_cons_succ]
        obtain ⟨ay, ny, hvy, hpy⟩ := ho7.prow
        subst hvy
        have hfy := HSf.out _ HBx7 (.slice ay (([] ++ p.slots) ++ [z]).length ny)
        have ky := plC_cell (old_block Y9.out HBx7) 7 _ rfl
        have zy := frozen_of_row _ _ 7 _ _ (old_block Y9.out HBx7)
        have yy := set_cellP (j := 7) (v := .slice ay (([] ++ p.slots) ++ [z]).length ny) (cs' := plC { p with slots := p.slots ++ [z] } a1 ay c1 ny) (old_block Y9.out HBx7) rfl
        have By : Below (w7.setCell ⟨w3.heap.size, 7, none⟩ (.slice a7 p.slots.length n7)).heap.size (w7.setCell ⟨w3.heap.size, 7, none⟩ (.slice a7 p.slots.length n7)) (x7.setCell ⟨w7.heap.size, 7, none⟩ (.slice ay (([] ++ p.slots) ++ [z]).length ny)) := (bel2 B98.out HBx7).setCell (p := ⟨w7.heap.size, 7, none⟩) (Nat.le_of_eq (size_set _ _ _)) _
        have hln : (([] ++ p.slots) ++ [z]).length = p.slots.length + 1 := by simp
        rw [hln] at hfy yy By
        clear hln
        refine wpAnyH_ready (rs := [15]) (by kernel_rfl) (by simp) ?_
        refine AllReadyH.cons rfl (fun K hK => ?_) AllReadyH.nil
        rw [if_pos (by rfl)]
        go_simp
        refine hK.out _ _ ?_ (fun hHeld => ?_)
        · exact hfy
        clear hK K
        try simp only [Act.put, List.getElem_toArray, List.getElem_cons_succ, List.getElem_cons_zero, List.setIfInBounds_toArray, List.set_cons_zero, List.set_cons_succ]
        refine wpAnyH_done (by kernel_rfl) ?_ _
        go_wp2_with fail
        go_meet
        case rel => exact ⟨ay, ny, yy, (ho7.prow_).at_set (by have h1 := ho7.at_ge; have h2 := lt_of_heap Y9.out; intro b o e; have := h1 b o e; omega), ho7.at_ge, By⟩
    · rw [if_pos (by rfl)]
      go_simp
      obtain ⟨x8, e8⟩ : ∃ x, x = (w9.alloc (.cells #[.int .i64 z.1, .int .i64 z.2] 48)).drew := ⟨_, rfl⟩
      rw [← e8]
      have HBx8 : Below w9.heap.size w9 x8 := by rw [e8]; exact ((Below.refl w9.heap.size w9).alloc (Nat.le_refl _) _).drew
      have hl8 : x8.heap[w9.heap.size]? = some (.cells #[.int .i64 z.1, .int .i64 z.2] 48 (0, 0)) := by rw [e8]; exact heap_alloc_new _ _
      clear e8
      refine hK.out _ _ ?_ (fun hHeld => ?_)
      · exact HSx.out _ HBx8
      clear hK K
      try simp only [Act.put, List.getElem_toArray, List.getElem_cons_succ, List.getElem_cons_zero, List.setIfInBounds_toArray, List.set_cons_zero, List.set_cons_succ]
      refine wpAnyH_ready (rs := [0]) (by kernel_rfl) (by simp) ?_
      refine AllReadyH.cons rfl (fun K hK => ?_) AllReadyH.nil
      rw [if_pos (by rfl)]
      go_simp
      obtain ⟨x9, e9⟩ : ∃ x, x = x8.alloc (.cells #[] 48) := ⟨_, rfl⟩
      rw [← e9]
      have HBx9 : Below w9.heap.size w9 x9 := by rw [e9]; exact HBx8.alloc HBx8.size _
      have hl9 : x9.heap[w9.heap.size]? = some (.cells #[.int .i64 z.1, .int .i64 z.2] 48 (0, 0)) := by rw [e9]; exact (heap_alloc_old _ _ (lt_of_heap hl8)).trans hl8
      have ho9 : OwnP x9 w9.heap.size 48 (.slice (some ⟨x8.heap.size, 0, none⟩) 0 0) [] := by rw [e9]; exact OwnP.lit_ _ _ _ HBx8.size
      have ne9 : Value.ownBlock (.slice (some ⟨x8.heap.size, 0, none⟩) 0 0) ≠ some w9.heap.size := fun e => by injection e with e; have := lt_of_heap hl8; simp only at e; omega
      clear e9
      refine hK.out _ _ ?_ (fun hHeld => ?_)
      · exact HSx.out _ HBx9
      clear hK K
      try simp only [Act.put, List.getElem_toArray, List.getElem_cons_succ, List.getElem_cons_zero, List.setIfInBounds_toArray, List.set_cons_zero, List.set_cons_succ]
      refine wpAnyH_ready (rs := [3]) (by kernel_rfl) (by simp) ?_
      refine AllReadyH.cons rfl (fun K hK => ?_) AllReadyH.nil
      rw [if_pos (by rfl)]
      refine wp_append_pairs (.tmp 98) (.tmp 100) 23 rfl w9.heap.size 48 Try.underlying23 info_slot (.slice (some ⟨x8.heap.size, 0, none⟩) 0 0) [] (by rfl) ho9 (some ⟨b, o, none⟩) (k + 1) c2 p.slots (by rfl) (HRk.out _ HBx9) (by have := HKB.out; simp; omega) HBx9.size ?_
      intro v10 x10 ho10 hg10 hw10
      have HBx10 : Below w9.heap.size w9 x10 := grownBy_belowO HBx9 hg10 HBx9.size (fun k hk => (World.ownsRow.lt ho9 k hk).1)
      have hl10 := (hg10.block _ (lt_of_heap hl9) (fun e => ne9 e.symm)).trans hl9
      refine hK.out _ _ ?_ (fun hHeld => ?_)
      · exact HSx.out _ HBx10
      clear hK K
      try simp only [Act.put, List.getElem_toArray, List.getElem_cons_succ, List.getElem_cons_zero, List.setIfInBounds_toArray, List.set_cons_zero, List.set_cons_succ]
      refine wpAnyH_ready (rs := [13]) (by kernel_rfl) (by simp) ?_
      refine AllReadyH.cons rfl (fun K hK => ?_) AllReadyH.nil
      rw [if_pos (by rfl)]
      refine wp_append_pairs (.tmp 101) (.tmp 110) 23 rfl w9.heap.size 48 Try.underlying23 info_slot v10 ([] ++ p.slots) (by rfl) ho10 (some ⟨w9.heap.size, 0, none⟩) 1 1 [z] (by rfl) (PRow.one_ hl10) (by have := HKB.out; have := HLK.out; simp; omega) HBx10.size ?_
      intro v11 x11 ho11 hg11 hw11
      have HBx11 : Below w9.heap.size w9 x11 := grownBy_belowO HBx10 hg11 HBx10.size (fun k hk => (World.ownsRow.lt ho10 k hk).1)
      refine hK.out _ _ ?_ (fun hHeld => ?_)
      · exact HSx.out _ HBx11
      clear hK K
      try simp only [Act.put, List.getElem_toArray, List.getElem_cons_succ, List.getElem_cons_zero, List.setIfInBounds_toArray, List.set_cons_zero, List.set_cons_succ]
      refine wpAnyH_take (i := 14) (v := ?_) rfl (by kernel_rfl) (by kernel_rfl) (by kernel_rfl) (fun _ _ _ h => h) (Or.inl ⟨by rfl, ?_⟩) (by assumption) ?_
      rotate_left
      · intro w hSw
        (try dsimp only at hSw)
        go_simp
        all_goals with_reducible rfl
      try simp only [Act.put, List.getElem_toArray, List.getElem_cons_succ, List.getElem_cons_zero, List.setIfInBounds_toArray, List.set_cons_zero, List.set_cons_succ]
      obtain ⟨ay, ny, hvy, hpy⟩ := ho11.prow
      subst hvy
      have hfy := HSf.out _ HBx11 (.slice ay (([] ++ p.slots) ++ [z]).length ny)
      have ky := plC_cell (old_block Y9.out HBx11) 7 _ rfl
      have zy := frozen_of_row _ _ 7 _ _ (old_block Y9.out HBx11)
      have yy := set_cellP (j := 7) (v := .slice ay (([] ++ p.slots) ++ [z]).length ny) (cs' := plC { p with slots := p.slots ++ [z] } a1 ay c1 ny) (old_block Y9.out HBx11) rfl
      have By : Below (w7.setCell ⟨w3.heap.size, 7, none⟩ (.slice a7 p.slots.length n7)).heap.size (w7.setCell ⟨w3.heap.size, 7, none⟩ (.slice a7 p.slots.length n7)) (x11.setCell ⟨w7.heap.size, 7, none⟩ (.slice ay (([] ++ p.slots) ++ [z]).length ny)) := (bel2 B98.out HBx11).setCell (p := ⟨w7.heap.size, 7, none⟩) (Nat.le_of_eq (size_set _ _ _)) _
      have hln : (([] ++ p.slots) ++ [z]).length = p.slots.length + 1 := by simp
      rw [hln] at hfy yy By
      clear hln
      refine wpAnyH_ready (rs := [15]) (by kernel_rfl) (by simp) ?_
      refine AllReadyH.cons rfl (fun K hK => ?_) AllReadyH.nil
      rw [if_pos (by rfl)]
      go_simp
      refine hK.out _ _ ?_ (fun hHeld => ?_)
      · exact hfy
      clear hK K
      try simp only [Act.put, List.getElem_toArray, List.getElem_cons_succ, List.getElem_cons_zero, List.setIfInBounds_toArray, List.set_cons_zero, List.set_cons_succ]
      refine wpAnyH_done (by kernel_rfl) ?_ _
      go_wp2_with fail
      go_meet
      case rel => exact ⟨ay, ny, yy, (ho11.prow_).at_set (by have h1 := ho11.at_ge; have h2 := lt_of_heap Y9.out; intro b o e; have := h1 b o e; omega), ho11.at_ge, By⟩
  case rest =>
    obtain ⟨ay, ny, hy, hpy, hay, hby⟩ := hcut
    obtain ⟨b7, o7, ea7, hb7, hc7⟩ := ((O7'.out.prow_).on hby).cell (by rw [HLK.out]; omega)
    have hc7 := (hc7 k (by rw [HLK.out]; omega)).1
    rw [← HZ.out] at hc7
    have hge := O7'.out.at_ge _ _ ea7
    have q1 := HQ.out
    have q2 : w4.heap.size ≤ w7.heap.size := by have h1 := H6.out; have h2 := size_set w5 ⟨w3.heap.size, 2, none⟩ (.slice a5 p.bands.length n5); have h3 := H75.out; omega
    have kx6 : wc.cell? ⟨w3.heap.size, 6, none⟩ = some (.int .i64 p.period) := plC_cell (old_block X8.out hby) 6 _ rfl
    have zx6 := frozen_of_row _ _ 6 _ _ (old_block X8.out hby)
    have kx7 : wc.cell? ⟨w3.heap.size, 7, none⟩ = some (.slice (some ⟨b7, o7, none⟩) (k + 1) n7) := by rw [← HLK.out, ← ea7]; exact plC_cell (old_block X8.out hby) 7 _ rfl
    have XD := Lib.hid (set_cellP (j := 6) (v := .int .i64 z.1) (cs' := plC { p with period := z.1 } a5 a7 n5 n7) (old_block X8.out hby) rfl)
    have YD := Lib.hid (set_far (g := w3.heap.size) (j := 6) (v := .int .i64 z.1) hy (by omega))
    have hbw : Below w.heap.size w (wc.setCell ⟨w3.heap.size, 6, none⟩ (.int .i64 z.1)) := (bel2 B8.out hby).setCell (p := ⟨w3.heap.size, 6, none⟩) (by have := HQ.out; show w.heap.size ≤ w3.heap.size; omega) _
    have BD := Lib.hid hbw
    have RD1 := Lib.hid (HR.out.1.on hbw)
    have RD5 := Lib.hid (((O5'.out.prow_).on hby).at_set (g := w3.heap.size) (j := 6) (u := .int .i64 z.1) (fun b o e => by have := O5'.out.at_ge b o e; omega))
    have RD7 := Lib.hid (((O7'.out.prow_).on hby).at_set (g := w3.heap.size) (j := 6) (u := .int .i64 z.1) (fun b o e => by have := O7'.out.at_ge b o e; omega))
    have RDy := Lib.hid (PRow.at_set (g := w3.heap.size) (j := 6) (u := .int .i64 z.1) hpy (fun b o e => by have := hay b o e; have := lt_of_heap X9.out; omega))
    have e7 := Lib.hid ea7
    clear hy hpy hay hby hbw hge q1 q2 hb7 ea7
    go_wp2_with (first | (refine wpList_load_rowG ?_ 25 (.tmp 7) (by rfl) w7.heap.size (by rfl) 25 (plC { p with slots := p.slots ++ [z] } a1 ay c1 ny) (0, 0) _ YD.out Try.underlying25 (by rfl) (by kernel_rfl) ?_; focus (first | rfl | (simp [Region.wanted, yielded]; done) | (simp [Region.wanted, yielded, *]; done))))
    refine (policy_any { p with slots := p.slots ++ [z] } RD1.out RDy.out).mono ?_
    rintro r we ⟨rfl, he⟩
    rw [show polR { p with slots := p.slots ++ [z] } = false from by have := pol_twice_s HP.out HK.out; rw [HLK.out] at this; rw [HZ.out]; exact this]
    have XE := Lib.hid (old_block XD.out he)
    have RE5 := Lib.hid (RD5.out.on he)
    have RE7 := Lib.hid (RD7.out.on he)
    have BE := Lib.hid (bel2 BD.out he)
    clear he
    go_wp2_with (first | (refine wpList_load_rowG ?_ 25 (.tmp 6) (by rfl) w3.heap.size (by rfl) 25 (plC { p with period := z.1 } a5 a7 n5 n7) (0, 0) _ XE.out Try.underlying25 (by rfl) (by kernel_rfl) ?_; focus (first | rfl | (simp [Region.wanted, yielded]; done) | (simp [Region.wanted, yielded, *]; done))))
    refine (policy_any { p with period := z.1 } RE5.out RE7.out).mono ?_
    rintro r wf ⟨rfl, hf⟩
    rw [show polR { p with period := z.1 } = false from by have := pol_period HP.out HK.out; rw [HLK.out] at this; rw [HZ.out]; exact this]
    have BF := Lib.hid (bel2 BE.out hf)
    clear hf
    go_wp2
    go_ret
    exact ⟨rfl, BF.out⟩
set_option linter.unusedSimpArgs false in
set_option maxRecDepth 100000 in
set_option maxHeartbeats 6400000 in
theorem eventPolicies_two {w : World} {a1 a2 : Option Addr} {c1 c2 : Nat} (p : Pl) (r1 : PRow w a1 p.bands.length c1 p.bands) (r2 : PRow w a2 p.slots.length c2 p.slots) (at_ : Int) (hat : 0 ≤ at_ ∧ at_ ≤ 255) (hk : p.kind = 2) :
    Calls Try.prog 7 #[plV p a1 a2 c1 c2, .int .u8 at_] w fun r w' => r = .returned (.bool true) ∧ Below w.heap.size w w' := by
  have hbv : (w.alloc (.cells (plC p a1 a2 c1 c2) 25)).heap[w.heap.size]? = some (.cells (plC p a1 a2 c1 c2) 25 (0, 0)) := heap_alloc_new _ _
  have hbb : Below w.heap.size w (w.alloc (.cells (plC p a1 a2 c1 c2) 25)) := bel1 (Below.refl _ _) _
  have HB := Lib.hid (And.intro hbv hbb)
  have HR := Lib.hid (And.intro r1 r2)
  have HA := Lib.hid hat
  clear hbv hbb r1 r2 hat
  have HK := Lib.hid hk
  have n2 : (p.kind == 2) = true := by rw [hk]; rfl
  clear hk
  unfold plV
  go_enter Try.func7, Try.ntmps7
  go_wp2_with fail
  refine (head_any _).mono ?_
  rintro r w1 ⟨rfl, h1⟩
  have V1 := Lib.hid (old_block HB.out.1 h1)
  have B1 := Lib.hid (bel2 HB.out.2 h1)
  clear h1 HB
  go_wp2_with (first | (refine wpList_load_row (by rfl) 25 (.tmp 2) (by rfl) w.heap.size (by rfl) 25 #[.int .i64 p.kind, .int .i64 p.target, .slice a1 p.bands.length c1, .int .i64 p.kp, .int .i64 p.ki, .int .i64 p.kd, .int .i64 p.period, .slice a2 p.slots.length c2] (0, 0) _ V1.out Try.underlying25 (by rfl) (by kernel_rfl) ?_))
  refine (great_any { ofKind 0 with pol := p } a1 a2 none c1 c2 0 _).mono ?_
  rintro r w2 ⟨rfl, h2⟩
  have V2 := Lib.hid (old_block V1.out h2)
  have B2 := Lib.hid (bel2 B1.out h2)
  clear h2 V1 B1
  cases hg : grtR { ofKind 0 with pol := p }
  rotate_left
  · clear hg
    go_wp2
    go_ret
    exact ⟨rfl, B2.out⟩
  clear hg
  go_wp2_with (first | (refine wpList_load_rowG ?_ 25 (.tmp 2) (by rfl) w.heap.size (by rfl) 25 (plC p a1 a2 c1 c2) (0, 0) _ V2.out Try.underlying25 (by rfl) (by kernel_rfl) ?_; focus (first | rfl | (simp [Region.wanted, yielded]; done) | (simp [Region.wanted, yielded, *]; done))))
  refine (policy_any p (HR.out.1.on B2.out) (HR.out.2.on B2.out)).mono ?_
  rintro r w3 ⟨rfl, h3⟩
  have V3 := Lib.hid (old_block V2.out h3)
  have B3 := Lib.hid (bel2 B2.out h3)
  clear h3 V2 B2
  cases hp : polR p
  · clear hp
    go_wp2
    go_ret
    exact ⟨rfl, B3.out⟩
  have HP := Lib.hid hp
  clear hp
  have hlen : p.bands.length ≤ 8 ∧ p.slots.length ≤ 8 := by
    have hp := HP.out
    by_cases k2 : p.kind = 2
    · have := pol_two hp k2
      exact ⟨by omega, by rw [this.2.2.2]; simp⟩
    · by_cases k4 : p.kind = 4
      · have := pol_four hp k4
        exact ⟨by rw [this.2.2]; simp, by omega⟩
      · have := pol_plain hp k2 k4
        exact ⟨by rw [this.2.1]; simp, by rw [this.2.2]; simp⟩
  have HL := Lib.hid hlen
  clear hlen
  obtain ⟨w4, e4, x4, b4⟩ := new_pol w3 (plC p a1 a2 c1 c2) rfl
  have HE := Lib.hid e4
  have q01 : w.heap.size < w3.heap.size := lt_of_heap V3.out
  have B4 := Lib.hid (bel2 B3.out b4)
  have V4 := Lib.hid (old_block V3.out b4)
  have X4 := Lib.hid x4
  have q14 : w3.heap.size < w4.heap.size := lt_of_heap X4.out
  have HQ := Lib.hid (And.intro q01 q14)
  have k42 : (w4.alloc (.cells #[] 46)).cell? ⟨w.heap.size, 2, none⟩ = some (.slice a1 p.bands.length c1) := plC_cell (old_block V4.out (bel1 (Below.refl _ _) _)) 2 _ rfl
  clear e4 x4 b4 q01 q14 B3
  go_wp2_with (first | (refine wpList_load_row (by rfl) 25 (.tmp 2) (by rfl) w.heap.size (by rfl) 25 (plC p a1 a2 c1 c2) (0, 0) _ V3.out Try.underlying25 (by rfl) (by kernel_rfl) ?_) | (refine wpList_store_mid (by rfl) 25 (.tmp 6) (.tmp 19) (by rfl) w3.heap.size 0 (plC p a1 a2 c1 c2) (by rfl) (by rfl) (there_new _ _) (by kernel_rfl) (by kernel_rfl) ?_; rw [HE.out]) | (at_builtin; refine wpList_append_pairs rfl (.tmp 20) (.tmp 22) 22 rfl w4.heap.size 46 Try.underlying22 info_band (.slice (some ⟨w4.heap.size, 0, none⟩) 0 0) [] (by rfl) (OwnP.lit_ _ _ _ (Nat.le_refl _)) a1 _ c1 p.bands (by rfl) ((HR.out.1.on B4.out).on (bel1 (Below.refl _ _) _)) (by have := HL.out; simp; omega) (by simp) ?_; (intro v5 w5 ho5 hg5 _); (rw [List.nil_append] at ho5); (obtain ⟨a5, n5, hv5, hp5⟩ := ho5.prow); (subst hv5); (have hb5 : Below w4.heap.size w4 w5 := grownBy_below (bel1 (Below.refl w4.heap.size w4) _) hg5 (by simp) (Nat.le_refl _)); (have V5 := Lib.hid (old_block V4.out hb5)); (have X5 := Lib.hid (old_block X4.out hb5)); (have O5 := Lib.hid ho5); (have H5 := Lib.hid hb5); (have k52 : w5.cell? ⟨w3.heap.size, 2, none⟩ = some (.slice a1 p.bands.length c1) := plC_cell X5.out 2 _ rfl); (have z52 := frozen_of_row _ _ 2 _ _ X5.out); (have X6 := Lib.hid (set_cellP (j := 2) (v := .slice a5 p.bands.length n5) (cs' := plC p a5 a2 n5 c2) X5.out rfl)); (have V6 := Lib.hid (set_far (g := w3.heap.size) (j := 2) (v := .slice a5 p.bands.length n5) V5.out (by have := HQ.out.1; omega))); (have k67 : ((w5.setCell ⟨w3.heap.size, 2, none⟩ (.slice a5 p.bands.length n5)).alloc (.cells #[] 48)).cell? ⟨w.heap.size, 7, none⟩ = some (.slice a2 p.slots.length c2) := plC_cell (old_block V6.out (bel1 (Below.refl _ _) _)) 7 _ rfl); (have B6 := Lib.hid (bel2 B4.out hb5 |>.setCell (p := ⟨w3.heap.size, 2, none⟩) (Nat.le_of_lt HQ.out.1) (.slice a5 p.bands.length n5))); (have s6 : w4.heap.size ≤ (w5.setCell ⟨w3.heap.size, 2, none⟩ (.slice a5 p.bands.length n5)).heap.size := by simpa using hb5.size); (have H6 := Lib.hid s6); (clear hp5 hb5 hg5 ho5 s6)) | (at_builtin; refine wpList_append_pairs rfl (.tmp 25) (.tmp 27) 23 rfl w4.heap.size 48 Try.underlying23 info_slot (.slice (some ⟨w5.heap.size, 0, none⟩) 0 0) [] (by rfl) (OwnP.lit_g _ _ _ _ (size_set _ _ _) H6.out) a2 _ c2 p.slots (by rfl) ((HR.out.2.on B6.out).on (bel1 (Below.refl _ _) _)) (by have := HL.out; simp; omega) (by have := H6.out; simp at this ⊢; omega) ?_; (intro v7 w7 ho7 hg7 _); (rw [List.nil_append] at ho7); (obtain ⟨a7, n7, hv7, hp7⟩ := ho7.prow); (subst hv7); (have hb7 : Below (w5.setCell ⟨w3.heap.size, 2, none⟩ (.slice a5 p.bands.length n5)).heap.size (w5.setCell ⟨w3.heap.size, 2, none⟩ (.slice a5 p.bands.length n5)) w7 := grownBy_below (bel1 (Below.refl (w5.setCell ⟨w3.heap.size, 2, none⟩ (.slice a5 p.bands.length n5)).heap.size (w5.setCell ⟨w3.heap.size, 2, none⟩ (.slice a5 p.bands.length n5))) _) hg7 (by simp) (Nat.le_of_eq (size_set _ _ _))); (have V7 := Lib.hid (old_block V6.out hb7)); (have X7 := Lib.hid (old_block X6.out hb7)); (have O7 := Lib.hid ho7); (have k77 : w7.cell? ⟨w3.heap.size, 7, none⟩ = some (.slice a2 p.slots.length c2) := plC_cell X7.out 7 _ rfl); (have z77 := frozen_of_row _ _ 7 _ _ X7.out); (have X8 := Lib.hid (set_cellP (j := 7) (v := .slice a7 p.slots.length n7) (cs' := plC p a5 a7 n5 n7) X7.out rfl)); (have V8 := Lib.hid (set_far (g := w3.heap.size) (j := 7) (v := .slice a7 p.slots.length n7) V7.out (by have := HQ.out.1; omega))); (have B8 := Lib.hid (bel2 B6.out hb7 |>.setCell (p := ⟨w3.heap.size, 7, none⟩) (Nat.le_of_lt HQ.out.1) (.slice a7 p.slots.length n7))); (have O5' : Hid (OwnP (w7.setCell ⟨w3.heap.size, 7, none⟩ (.slice a7 p.slots.length n7)) w4.heap.size 46 (.slice a5 p.bands.length n5) p.bands) := ((O5.out.keep_set _ _ HQ.out.2).below hb7).keep_set _ _ HQ.out.2); (have O7' : Hid (OwnP (w7.setCell ⟨w3.heap.size, 7, none⟩ (.slice a7 p.slots.length n7)) w4.heap.size 48 (.slice a7 p.slots.length n7) p.slots) := O7.out.keep_set _ _ HQ.out.2); (obtain ⟨w9, e9, y9, b9⟩ := new_polg (w7.setCell ⟨w3.heap.size, 7, none⟩ (.slice a7 p.slots.length n7)) w7.heap.size (size_set _ _ _) (plC p a1 a2 c1 c2) rfl); (have E9 := Lib.hid e9); (have V9 := Lib.hid (old_block V8.out b9)); (have X9 := Lib.hid (old_block X8.out b9)); (have Y9 := Lib.hid y9); (have B9 := Lib.hid (bel2 B8.out b9)); (have O5 := Lib.hid (O5'.out.below b9)); (have O7 := Lib.hid (O7'.out.below b9)); (have k90 : w9.cell? ⟨w.heap.size, 0, none⟩ = some (.int .i64 p.kind) := plC_cell V9.out 0 _ rfl); (have B98 := Lib.hid b9); (have H75 := Lib.hid (show w5.heap.size ≤ w7.heap.size by have h1 := hb7.size; have h2 := size_set w5 ⟨w3.heap.size, 2, none⟩ (.slice a5 p.bands.length n5); omega)); (clear hp7 hb7 hg7 ho7 e9 y9 b9 X5 V5 X6 V6 V7 X7)) | (refine wpList_load_row (by rfl) 25 (.tmp 2) (by rfl) w.heap.size (by rfl) 25 (plC p a1 a2 c1 c2) (0, 0) _ V8.out Try.underlying25 (by rfl) (by kernel_rfl) ?_) | (refine wpList_store_mid (by rfl) 25 (.tmp 7) (.tmp 30) (by rfl) w7.heap.size 0 (plC p a1 a2 c1 c2) (by rfl) (by rfl) (there_newg _ _ (size_set _ _ _) _) (by kernel_rfl) (by kernel_rfl) ?_; rw [E9.out]))
  obtain ⟨k, hk⟩ : ∃ k, p.bands.length = k + 1 := ⟨p.bands.length - 1, by have := pol_two HP.out HK.out; omega⟩
  obtain ⟨b, o, ea, hbl, hcc⟩ := HR.out.1.cell (by omega)
  have kc := hcc k (by omega)
  obtain ⟨z, hz⟩ : ∃ z, z = p.bands.getD k (0, 0) := ⟨_, rfl⟩
  rw [← hz] at kc
  have HZ := Lib.hid hz
  clear hz
  have HKB : Hid (k ≤ 7) := by have := HL.out; show k ≤ 7; omega
  have HLK := Lib.hid hk
  have hw : IntKind.i64.wrap (k : Int) = (k : Int) := by have := HKB.out; rw [IntKind.wrap_i64]; omega
  have hk1 : (k : Int) < (k : Int) + 1 := by omega
  have hq2 : w.heap.size < w7.heap.size := by have h1 := HQ.out; have h2 := H6.out; have h3 := size_set w7 ⟨w3.heap.size, 7, none⟩ (.slice a7 p.slots.length n7); have h4 := lt_of_heap V8.out; omega
  have HRk : Hid (∀ x, Below w9.heap.size w9 x → PRow x a1 (k + 1) c1 p.bands) := fun x hb => by have h := HR.out.1.on (bel2 B9.out hb); rw [hk] at h; exact h
  have hS : ∀ x, Below w.heap.size w x → x.cell? ⟨w.heap.size, 2, none⟩ = some (.slice a1 (k + 1) c1) → x.cell? ⟨w.heap.size, 2, none⟩ = some (.slice a1 (k + 1) c1) ∧ x.cell? ⟨b, o + k * 2, none⟩ = some (.int .i64 z.1) ∧ x.cell? ⟨b, o + k * 2 + 1, none⟩ = some (.int .i64 z.2) := fun x hb h0 => ⟨h0, (hb.cell (p := ⟨b, o + k * 2, none⟩) hbl).trans kc.1, (hb.cell (p := ⟨b, o + k * 2 + 1, none⟩) hbl).trans kc.2⟩
  have HSx : Hid (∀ x, Below w9.heap.size w9 x → x.cell? ⟨w.heap.size, 2, none⟩ = some (.slice a1 (k + 1) c1) ∧ x.cell? ⟨b, o + k * 2, none⟩ = some (.int .i64 z.1) ∧ x.cell? ⟨b, o + k * 2 + 1, none⟩ = some (.int .i64 z.2)) := fun x hb => hS x (bel2 B9.out hb) (by rw [← hk]; exact plC_cell (old_block V9.out hb) 2 _ rfl)
  have HSf : Hid (∀ x, Below w9.heap.size w9 x → ∀ u, (fun x => x.cell? ⟨w.heap.size, 2, none⟩ = some (.slice a1 (k + 1) c1) ∧ x.cell? ⟨b, o + k * 2, none⟩ = some (.int .i64 z.1) ∧ x.cell? ⟨b, o + k * 2 + 1, none⟩ = some (.int .i64 z.2)) (x.setCell ⟨w7.heap.size, 2, none⟩ u)) := fun x hb u => hS _ ((bel2 B9.out hb).setCell (p := ⟨w7.heap.size, 2, none⟩) (Nat.le_of_lt hq2) u) (by rw [← hk]; exact plC_cell (set_far (old_block V9.out hb) (by omega)) 2 _ rfl)
  have HCC := Lib.hid hcc
  have HBL := Lib.hid hbl
  clear hS kc hcc
  subst ea
  clear hk hq2
  go_cut [] from 34 to 48 (fun wx => ∃ ay ny, wx.heap[w7.heap.size]? = some (.cells (plC { p with bands := p.bands ++ [z] } ay a2 ny c2) 25 (0, 0)) ∧ PRow wx ay (([] ++ p.bands) ++ [z]).length ny (([] ++ p.bands) ++ [z]) ∧ (∀ b o, ay = some ⟨b, o, none⟩ → w9.heap.size ≤ b) ∧ Below (w7.setCell ⟨w3.heap.size, 7, none⟩ (.slice a7 p.slots.length n7)).heap.size (w7.setCell ⟨w3.heap.size, 7, none⟩ (.slice a7 p.slots.length n7)) wx)
  case first =>
    refine wp_region_held_drew (S := fun x => x.cell? ⟨w.heap.size, 2, none⟩ = some (.slice (some ⟨b, o, none⟩) (k + 1) c1) ∧ x.cell? ⟨b, o + k * 2, none⟩ = some (.int .i64 z.1) ∧ x.cell? ⟨b, o + k * 2 + 1, none⟩ = some (.int .i64 z.2)) (by kernel_rfl) (HSx.out _ (Below.drew (Below.refl _ _))) (fun hHeld => ?_)
    have HB0 : Below w9.heap.size w9 w9.drew := Below.drew (Below.refl _ _)
    refine wpAnyH_take (i := 1) (v := ?_) rfl (by kernel_rfl) (by kernel_rfl) (by kernel_rfl) (fun _ _ _ h => h) (Or.inl ⟨by rfl, ?_⟩) (by assumption) ?_
    rotate_left
    · intro w hSw
      (try dsimp only at hSw)
      go_simp
      all_goals with_reducible rfl
    try simp only [Act.put, List.getElem_toArray, List.getElem_cons_succ, List.getElem_cons_zero, List.setIfInBounds_toArray, List.set_cons_zero, List.set_cons_succ]
    refine wpAnyH_take (i := 2) (v := ?_) rfl (by kernel_rfl) (by kernel_rfl) (by kernel_rfl) (fun _ _ _ h => h) (Or.inl ⟨by rfl, ?_⟩) (by assumption) ?_
    rotate_left
    · intro w hSw
      (try dsimp only at hSw)
      go_simp
      all_goals with_reducible rfl
    try simp only [Act.put, List.getElem_toArray, List.getElem_cons_succ, List.getElem_cons_zero, List.setIfInBounds_toArray, List.set_cons_zero, List.set_cons_succ]
    refine wpAnyH_take (i := 4) (v := ?_) rfl (by kernel_rfl) (by kernel_rfl) (by kernel_rfl) (fun _ _ _ h => h) (Or.inl ⟨by rfl, ?_⟩) (by assumption) ?_
    rotate_left
    · intro w hSw
      (try dsimp only at hSw)
      go_simp
      all_goals with_reducible rfl
    try simp only [Act.put, List.getElem_toArray, List.getElem_cons_succ, List.getElem_cons_zero, List.setIfInBounds_toArray, List.set_cons_zero, List.set_cons_succ]
    refine wpAnyH_take (i := 5) (v := ?_) rfl (by kernel_rfl) (by kernel_rfl) (by kernel_rfl) (fun _ _ _ h => h) (Or.inl ⟨by rfl, ?_⟩) (by assumption) ?_
    rotate_left
    · intro w hSw
      (try dsimp only at hSw)
      go_simp
      all_goals with_reducible rfl
    try simp only [Act.put, List.getElem_toArray, List.getElem_cons_succ, List.getElem_cons_zero, List.setIfInBounds_toArray, List.set_cons_zero, List.set_cons_succ]
    refine wpAnyH_take (i := 6) (v := ?_) rfl (by kernel_rfl) (by kernel_rfl) (by kernel_rfl) (fun _ _ _ h => h) (Or.inl ⟨by rfl, ?_⟩) (by assumption) ?_
    rotate_left
    · intro w hSw
      (try dsimp only at hSw)
      go_simp
      all_goals with_reducible rfl
    try simp only [Act.put, List.getElem_toArray, List.getElem_cons_succ, List.getElem_cons_zero, List.setIfInBounds_toArray, List.set_cons_zero, List.set_cons_succ]
    refine wpAnyH_take (i := 7) (v := ?_) rfl (by kernel_rfl) (by kernel_rfl) (by kernel_rfl) (fun _ _ _ h => h) (Or.inl ⟨by rfl, ?_⟩) (by assumption) ?_
    rotate_left
    · intro w hSw
      (try dsimp only at hSw)
      go_simp
      all_goals with_reducible rfl
    try simp only [Act.put, List.getElem_toArray, List.getElem_cons_succ, List.getElem_cons_zero, List.setIfInBounds_toArray, List.set_cons_zero, List.set_cons_succ]
    refine wpAnyH_take (i := 8) (v := ?_) rfl (by kernel_rfl) (by kernel_rfl) (by kernel_rfl) (fun _ _ _ h => h) (Or.inl ⟨by rfl, ?_⟩) (by assumption) ?_
    rotate_left
    · intro w hSw
      (try dsimp only at hSw)
      go_simp
      all_goals with_reducible rfl
    try simp only [Act.put, List.getElem_toArray, List.getElem_cons_succ, List.getElem_cons_zero, List.setIfInBounds_toArray, List.set_cons_zero, List.set_cons_succ]
    refine wpAnyH_take (i := 9) (v := ?_) rfl (by kernel_rfl) (by kernel_rfl) (by kernel_rfl) (fun _ _ _ h => h) (Or.inl ⟨by rfl, ?_⟩) (by assumption) ?_
    rotate_left
    · intro w hSw
      (try dsimp only at hSw)
      go_simp
      all_goals with_reducible rfl
    try simp only [Act.put, List.getElem_toArray, List.getElem_cons_succ, List.getElem_cons_zero, List.setIfInBounds_toArray, List.set_cons_zero, List.set_cons_succ]
    refine wpAnyH_take (i := 10) (v := ?_) rfl (by kernel_rfl) (by kernel_rfl) (by kernel_rfl) (fun _ _ _ h => h) (Or.inl ⟨by rfl, ?_⟩) (by assumption) ?_
    rotate_left
    · intro w hSw
      (try dsimp only at hSw)
      go_simp
      all_goals with_reducible rfl
    try simp only [Act.put, List.getElem_toArray, List.getElem_cons_succ, List.getElem_cons_zero, List.setIfInBounds_toArray, List.set_cons_zero, List.set_cons_succ]
    refine wpAnyH_take (i := 11) (v := ?_) rfl (by kernel_rfl) (by kernel_rfl) (by kernel_rfl) (fun _ _ _ h => h) (Or.inl ⟨by rfl, ?_⟩) (by assumption) ?_
    rotate_left
    · intro w hSw
      (try dsimp only at hSw)
      go_simp
      all_goals with_reducible rfl
    try simp only [Act.put, List.getElem_toArray, List.getElem_cons_succ, List.getElem_cons_zero, List.setIfInBounds_toArray, List.set_cons_zero, List.set_cons_succ]
    refine wpAnyH_ready (rs := [0, 12]) (by kernel_rfl) (by simp) ?_
    refine AllReadyH.cons rfl (fun K hK => ?_) (AllReadyH.cons rfl (fun K hK => ?_) AllReadyH.nil)
    · rw [if_pos (by rfl)]
      go_simp
      obtain ⟨x12, e12⟩ : ∃ x, x = (w9.alloc (.cells #[] 46)).drew := ⟨_, rfl⟩
      rw [← e12]
      have HBx12 : Below w9.heap.size w9 x12 := by rw [e12]; exact ((Below.refl w9.heap.size w9).alloc (Nat.le_refl _) _).drew
      have ho12 : OwnP x12 w9.heap.size 46 (.slice (some ⟨w9.heap.size, 0, none⟩) 0 0) [] := by rw [e12]; exact OwnP.lit_ _ _ _ (Nat.le_refl _)
      clear e12
      refine hK.out _ _ ?_ (fun hHeld => ?_)
      · exact HSx.out _ HBx12
      clear hK K
      try simp only [Act.put, List.getElem_toArray, List.getElem_cons_succ, List.getElem_cons_zero, List.setIfInBounds_toArray, List.set_cons_zero, List.set_cons_succ]
      refine wpAnyH_ready (rs := [3, 12]) (by kernel_rfl) (by simp) ?_
      refine AllReadyH.cons rfl (fun K hK => ?_) (AllReadyH.cons rfl (fun K hK => ?_) AllReadyH.nil)
      · rw [if_pos (by rfl)]
        refine wp_append_pairs (.tmp 34) (.tmp 36) 22 rfl w9.heap.size 46 Try.underlying22 info_band (.slice (some ⟨w9.heap.size, 0, none⟩) 0 0) [] (by rfl) ho12 (some ⟨b, o, none⟩) (k + 1) c1 p.bands (by rfl) (HRk.out _ HBx12) (by have := HKB.out; simp; omega) HBx12.size ?_
        intro v13 x13 ho13 hg13 hw13
        have HBx13 : Below w9.heap.size w9 x13 := grownBy_belowO HBx12 hg13 HBx12.size (fun k hk => (World.ownsRow.lt ho12 k hk).1)
        refine hK.out _ _ ?_ (fun hHeld => ?_)
        · exact HSx.out _ HBx13
        clear hK K
        try simp only [Act.put, List.getElem_toArray, List.getElem_cons_succ, List.getElem_cons_zero, List.setIfInBounds_toArray, List.set_cons_zero, List.set_cons_succ]
        refine wpAnyH_ready (rs := [12]) (by kernel_rfl) (by simp) ?_
        refine AllReadyH.cons rfl (fun K hK => ?_) AllReadyH.nil
        rw [if_pos (by rfl)]
        go_simp
        obtain ⟨x14, e14⟩ : ∃ x, x = x13.alloc (.cells #[.int .i64 z.1, .int .i64 z.2] 46) := ⟨_, rfl⟩
        rw [← e14]
        have HBx14 : Below w9.heap.size w9 x14 := by rw [e14]; exact HBx13.alloc HBx13.size _
        have ho14 : OwnP x14 w9.heap.size 46 v13 ([] ++ p.bands) := by rw [e14]; exact World.ownsRow.alloc ho13 _
        have hl14 : x14.heap[x13.heap.size]? = some (.cells #[.int .i64 z.1, .int .i64 z.2] 46 (0, 0)) := by rw [e14]; exact heap_alloc_new _ _
        have ne14 : Value.ownBlock v13 ≠ some x13.heap.size := fun e => by have h1 := (World.ownsRow.lt ho13 _ e).2; omega
        clear e14
        refine hK.out _ _ ?_ (fun hHeld => ?_)
        · exact HSx.out _ HBx14
        clear hK K
        try simp only [Act.put, List.getElem_toArray, List.getElem_cons_succ, List.getElem_cons_zero, List.setIfInBounds_toArray, List.set_cons_zero, List.set_cons_succ]
        refine wpAnyH_ready (rs := [13]) (by kernel_rfl) (by simp) ?_
        refine AllReadyH.cons rfl (fun K hK => ?_) AllReadyH.nil
        rw [if_pos (by rfl)]
        refine wp_append_pairs (.tmp 37) (.tmp 46) 22 rfl w9.heap.size 46 Try.underlying22 info_band v13 ([] ++ p.bands) (by rfl) ho14 (some ⟨x13.heap.size, 0, none⟩) 1 1 [z] (by rfl) (PRow.one_ hl14) (by have := HKB.out; have := HLK.out; simp; omega) HBx14.size ?_
        intro v15 x15 ho15 hg15 hw15
        have HBx15 : Below w9.heap.size w9 x15 := grownBy_belowO HBx14 hg15 HBx14.size (fun k hk => (World.ownsRow.lt ho14 k hk).1)
        refine hK.out _ _ ?_ (fun hHeld => ?_)
        · exact HSx.out _ HBx15
        clear hK K
        try simp only [Act.put, List.getElem_toArray, List.getElem_cons_succ, List.getElem_cons_zero, List.setIfInBounds_toArray, List.set_cons_zero, List.set_cons_succ]
        refine wpAnyH_take (i := 14) (v := ?_) rfl (by kernel_rfl) (by kernel_rfl) (by kernel_rfl) (fun _ _ _ h => h) (Or.inl ⟨by rfl, ?_⟩) (by assumption) ?_
        rotate_left
        · intro w hSw
          (try dsimp only at hSw)
          go_simp
          all_goals with_reducible rfl
        try simp only [Act.put, List.getElem_toArray, List.getElem_cons_succ, List.getElem_cons_zero, List.setIfInBounds_toArray, List.set_cons_zero, List.set_cons_succ]
        obtain ⟨ay, ny, hvy, hpy⟩ := ho15.prow
        subst hvy
        have hfy := HSf.out _ HBx15 (.slice ay (([] ++ p.bands) ++ [z]).length ny)
        have ky := plC_cell (old_block Y9.out HBx15) 2 _ rfl
        have zy := frozen_of_row _ _ 2 _ _ (old_block Y9.out HBx15)
        have yy := set_cellP (j := 2) (v := .slice ay (([] ++ p.bands) ++ [z]).length ny) (cs' := plC { p with bands := p.bands ++ [z] } ay a2 ny c2) (old_block Y9.out HBx15) rfl
        have By : Below (w7.setCell ⟨w3.heap.size, 7, none⟩ (.slice a7 p.slots.length n7)).heap.size (w7.setCell ⟨w3.heap.size, 7, none⟩ (.slice a7 p.slots.length n7)) (x15.setCell ⟨w7.heap.size, 2, none⟩ (.slice ay (([] ++ p.bands) ++ [z]).length ny)) := (bel2 B98.out HBx15).setCell (p := ⟨w7.heap.size, 2, none⟩) (Nat.le_of_eq (size_set _ _ _)) _
        have hln : (([] ++ p.bands) ++ [z]).length = p.bands.length + 1 := by simp
        rw [hln] at hfy yy By
        clear hln
        refine wpAnyH_ready (rs := [15]) (by kernel_rfl) (by simp) ?_
        refine AllReadyH.cons rfl (fun K hK => ?_) AllReadyH.nil
        rw [if_pos (by rfl)]
        go_simp
        refine hK.out _ _ ?_ (fun hHeld => ?_)
        · exact hfy
        clear hK K
        try simp only [Act.put, List.getElem_toArray, List.getElem_cons_succ, List.getElem_cons_zero, List.setIfInBounds_toArray, List.set_cons_zero, List.set_cons_succ]
        refine wpAnyH_done (by kernel_rfl) ?_ _
        go_wp2_with fail
        go_meet
        case rel => exact ⟨ay, ny, yy, (ho15.prow_).at_set (by have h1 := ho15.at_ge; have h2 := lt_of_heap Y9.out; intro b o e; have := h1 b o e; omega), ho15.at_ge, By⟩
      · rw [if_pos (by rfl)]
        go_simp
        obtain ⟨x16, e16⟩ : ∃ x, x = x12.alloc (.cells #[.int .i64 z.1, .int .i64 z.2] 46) := ⟨_, rfl⟩
        rw [← e16]
        have HBx16 : Below w9.heap.size w9 x16 := by rw [e16]; exact HBx12.alloc HBx12.size _
        have ho16 : OwnP x16 w9.heap.size 46 (.slice (some ⟨w9.heap.size, 0, none⟩) 0 0) [] := by rw [e16]; exact World.ownsRow.alloc ho12 _
        have hl16 : x16.heap[x12.heap.size]? = some (.cells #[.int .i64 z.1, .int .i64 z.2] 46 (0, 0)) := by rw [e16]; exact heap_alloc_new _ _
        have ne16 : Value.ownBlock (.slice (some ⟨w9.heap.size, 0, none⟩) 0 0) ≠ some x12.heap.size := fun e => by have h1 := (World.ownsRow.lt ho12 _ e).2; omega
        clear e16
        refine hK.out _ _ ?_ (fun hHeld => ?_)
        · exact HSx.out _ HBx16
        clear hK K
        try simp only [Act.put, List.getElem_toArray, List.getElem_cons_succ, List.getElem_cons_zero, List.setIfInBounds_toArray, List.set_cons_zero, List.set_cons_succ]
        refine wpAnyH_ready (rs := [3]) (by kernel_rfl) (by simp) ?_
        refine AllReadyH.cons rfl (fun K hK => ?_) AllReadyH.nil
        rw [if_pos (by rfl)]
        refine wp_append_pairs (.tmp 34) (.tmp 36) 22 rfl w9.heap.size 46 Try.underlying22 info_band (.slice (some ⟨w9.heap.size, 0, none⟩) 0 0) [] (by rfl) ho16 (some ⟨b, o, none⟩) (k + 1) c1 p.bands (by rfl) (HRk.out _ HBx16) (by have := HKB.out; simp; omega) HBx16.size ?_
        intro v17 x17 ho17 hg17 hw17
        have HBx17 : Below w9.heap.size w9 x17 := grownBy_belowO HBx16 hg17 HBx16.size (fun k hk => (World.ownsRow.lt ho16 k hk).1)
        have hl17 := (hg17.block _ (lt_of_heap hl16) (fun e => ne16 e.symm)).trans hl16
        refine hK.out _ _ ?_ (fun hHeld => ?_)
        · exact HSx.out _ HBx17
        clear hK K
        try simp only [Act.put, List.getElem_toArray, List.getElem_cons_succ, List.getElem_cons_zero, List.setIfInBounds_toArray, List.set_cons_zero, List.set_cons_succ]
        refine wpAnyH_ready (rs := [13]) (by kernel_rfl) (by simp) ?_
        refine AllReadyH.cons rfl (fun K hK => ?_) AllReadyH.nil
        rw [if_pos (by rfl)]
        refine wp_append_pairs (.tmp 37) (.tmp 46) 22 rfl w9.heap.size 46 Try.underlying22 info_band v17 ([] ++ p.bands) (by rfl) ho17 (some ⟨x12.heap.size, 0, none⟩) 1 1 [z] (by rfl) (PRow.one_ hl17) (by have := HKB.out; have := HLK.out; simp; omega) HBx17.size ?_
        intro v18 x18 ho18 hg18 hw18
        have HBx18 : Below w9.heap.size w9 x18 := grownBy_belowO HBx17 hg18 HBx17.size (fun k hk => (World.ownsRow.lt ho17 k hk).1)
        refine hK.out _ _ ?_ (fun hHeld => ?_)
        · exact HSx.out _ HBx18
        clear hK K
        try simp only [Act.put, List.getElem_toArray, List.getElem_cons_succ, List.getElem_cons_zero, List.setIfInBounds_toArray, List.set_cons_zero, List.set_cons_succ]
        refine wpAnyH_take (i := 14) (v := ?_) rfl (by kernel_rfl) (by kernel_rfl) (by kernel_rfl) (fun _ _ _ h => h) (Or.inl ⟨by rfl, ?_⟩) (by assumption) ?_
        rotate_left
        · intro w hSw
          (try dsimp only at hSw)
          go_simp
          all_goals with_reducible rfl
        try simp only [Act.put, List.getElem_toArray, List.getElem_cons_succ, List.getElem_cons_zero, List.setIfInBounds_toArray, List.set_cons_zero, List.set_cons_succ]
        obtain ⟨ay, ny, hvy, hpy⟩ := ho18.prow
        subst hvy
        have hfy := HSf.out _ HBx18 (.slice ay (([] ++ p.bands) ++ [z]).length ny)
        have ky := plC_cell (old_block Y9.out HBx18) 2 _ rfl
        have zy := frozen_of_row _ _ 2 _ _ (old_block Y9.out HBx18)
        have yy := set_cellP (j := 2) (v := .slice ay (([] ++ p.bands) ++ [z]).length ny) (cs' := plC { p with bands := p.bands ++ [z] } ay a2 ny c2) (old_block Y9.out HBx18) rfl
        have By : Below (w7.setCell ⟨w3.heap.size, 7, none⟩ (.slice a7 p.slots.length n7)).heap.size (w7.setCell ⟨w3.heap.size, 7, none⟩ (.slice a7 p.slots.length n7)) (x18.setCell ⟨w7.heap.size, 2, none⟩ (.slice ay (([] ++ p.bands) ++ [z]).length ny)) := (bel2 B98.out HBx18).setCell (p := ⟨w7.heap.size, 2, none⟩) (Nat.le_of_eq (size_set _ _ _)) _
        have hln : (([] ++ p.bands) ++ [z]).length = p.bands.length + 1 := by simp
        rw [hln] at hfy yy By
        clear hln
        refine wpAnyH_ready (rs := [15]) (by kernel_rfl) (by simp) ?_
        refine AllReadyH.cons rfl (fun K hK => ?_) AllReadyH.nil
        rw [if_pos (by rfl)]
        go_simp
        refine hK.out _ _ ?_ (fun hHeld => ?_)
        · exact hfy
        clear hK K
        try simp only [Act.put, List.getElem_toArray, List.getElem_cons_succ, List.getElem_cons_zero, List.setIfInBounds_toArray, List.set_cons_zero, List.set_cons_succ]
        refine wpAnyH_done (by kernel_rfl) ?_ _
        go_wp2_with fail
        go_meet
        case rel => exact ⟨ay, ny, yy, (ho18.prow_).at_set (by have h1 := ho18.at_ge; have h2 := lt_of_heap Y9.out; intro b o e; have := h1 b o e; omega), ho18.at_ge, By⟩
    · rw [if_pos (by rfl)]
      go_simp
      obtain ⟨x19, e19⟩ : ∃ x, x = (w9.alloc (.cells #[.int .i64 z.1, .int .i64 z.2] 46)).drew := ⟨_, rfl⟩
      rw [← e19]
      have HBx19 : Below w9.heap.size w9 x19 := by rw [e19]; exact ((Below.refl w9.heap.size w9).alloc (Nat.le_refl _) _).drew
      have hl19 : x19.heap[w9.heap.size]? = some (.cells #[.int .i64 z.1, .int .i64 z.2] 46 (0, 0)) := by rw [e19]; exact heap_alloc_new _ _
      clear e19
      refine hK.out _ _ ?_ (fun hHeld => ?_)
      · exact HSx.out _ HBx19
      clear hK K
      try simp only [Act.put, List.getElem_toArray, List.getElem_cons_succ, List.getElem_cons_zero, List.setIfInBounds_toArray, List.set_cons_zero, List.set_cons_succ]
      refine wpAnyH_ready (rs := [0]) (by kernel_rfl) (by simp) ?_
      refine AllReadyH.cons rfl (fun K hK => ?_) AllReadyH.nil
      rw [if_pos (by rfl)]
      go_simp
      obtain ⟨x20, e20⟩ : ∃ x, x = x19.alloc (.cells #[] 46) := ⟨_, rfl⟩
      rw [← e20]
      have HBx20 : Below w9.heap.size w9 x20 := by rw [e20]; exact HBx19.alloc HBx19.size _
      have hl20 : x20.heap[w9.heap.size]? = some (.cells #[.int .i64 z.1, .int .i64 z.2] 46 (0, 0)) := by rw [e20]; exact (heap_alloc_old _ _ (lt_of_heap hl19)).trans hl19
      have ho20 : OwnP x20 w9.heap.size 46 (.slice (some ⟨x19.heap.size, 0, none⟩) 0 0) [] := by rw [e20]; exact OwnP.lit_ _ _ _ HBx19.size
      have ne20 : Value.ownBlock (.slice (some ⟨x19.heap.size, 0, none⟩) 0 0) ≠ some w9.heap.size := fun e => by injection e with e; have := lt_of_heap hl19; simp only at e; omega
      clear e20
      refine hK.out _ _ ?_ (fun hHeld => ?_)
      · exact HSx.out _ HBx20
      clear hK K
      try simp only [Act.put, List.getElem_toArray, List.getElem_cons_succ, List.getElem_cons_zero, List.setIfInBounds_toArray, List.set_cons_zero, List.set_cons_succ]
      refine wpAnyH_ready (rs := [3]) (by kernel_rfl) (by simp) ?_
      refine AllReadyH.cons rfl (fun K hK => ?_) AllReadyH.nil
      rw [if_pos (by rfl)]
      refine wp_append_pairs (.tmp 34) (.tmp 36) 22 rfl w9.heap.size 46 Try.underlying22 info_band (.slice (some ⟨x19.heap.size, 0, none⟩) 0 0) [] (by rfl) ho20 (some ⟨b, o, none⟩) (k + 1) c1 p.bands (by rfl) (HRk.out _ HBx20) (by have := HKB.out; simp; omega) HBx20.size ?_
      intro v21 x21 ho21 hg21 hw21
      have HBx21 : Below w9.heap.size w9 x21 := grownBy_belowO HBx20 hg21 HBx20.size (fun k hk => (World.ownsRow.lt ho20 k hk).1)
      have hl21 := (hg21.block _ (lt_of_heap hl20) (fun e => ne20 e.symm)).trans hl20
      refine hK.out _ _ ?_ (fun hHeld => ?_)
      · exact HSx.out _ HBx21
      clear hK K
      try simp only [Act.put, List.getElem_toArray, List.getElem_cons_succ, List.getElem_cons_zero, List.setIfInBounds_toArray, List.set_cons_zero, List.set_cons_succ]
      refine wpAnyH_ready (rs := [13]) (by kernel_rfl) (by simp) ?_
      refine AllReadyH.cons rfl (fun K hK => ?_) AllReadyH.nil
      rw [if_pos (by rfl)]
      refine wp_append_pairs (.tmp 37) (.tmp 46) 22 rfl w9.heap.size 46 Try.underlying22 info_band v21 ([] ++ p.bands) (by rfl) ho21 (some ⟨w9.heap.size, 0, none⟩) 1 1 [z] (by rfl) (PRow.one_ hl21) (by have := HKB.out; have := HLK.out; simp; omega) HBx21.size ?_
      intro v22 x22 ho22 hg22 hw22
      have HBx22 : Below w9.heap.size w9 x22 := grownBy_belowO HBx21 hg22 HBx21.size (fun k hk => (World.ownsRow.lt ho21 k hk).1)
      refine hK.out _ _ ?_ (fun hHeld => ?_)
      · exact HSx.out _ HBx22
      clear hK K
      try simp only [Act.put, List.getElem_toArray, List.getElem_cons_succ, List.getElem_cons_zero, List.setIfInBounds_toArray, List.set_cons_zero, List.set_cons_succ]
      refine wpAnyH_take (i := 14) (v := ?_) rfl (by kernel_rfl) (by kernel_rfl) (by kernel_rfl) (fun _ _ _ h => h) (Or.inl ⟨by rfl, ?_⟩) (by assumption) ?_
      rotate_left
      · intro w hSw
        (try dsimp only at hSw)
        go_simp
        all_goals with_reducible rfl
      try simp only [Act.put, List.getElem_toArray, List.getElem_cons_succ, List.getElem_cons_zero, List.setIfInBounds_toArray, List.set_cons_zero, List.set_cons_succ]
      obtain ⟨ay, ny, hvy, hpy⟩ := ho22.prow
      subst hvy
      have hfy := HSf.out _ HBx22 (.slice ay (([] ++ p.bands) ++ [z]).length ny)
      have ky := plC_cell (old_block Y9.out HBx22) 2 _ rfl
      have zy := frozen_of_row _ _ 2 _ _ (old_block Y9.out HBx22)
      have yy := set_cellP (j := 2) (v := .slice ay (([] ++ p.bands) ++ [z]).length ny) (cs' := plC { p with bands := p.bands ++ [z] } ay a2 ny c2) (old_block Y9.out HBx22) rfl
      have By : Below (w7.setCell ⟨w3.heap.size, 7, none⟩ (.slice a7 p.slots.length n7)).heap.size (w7.setCell ⟨w3.heap.size, 7, none⟩ (.slice a7 p.slots.length n7)) (x22.setCell ⟨w7.heap.size, 2, none⟩ (.slice ay (([] ++ p.bands) ++ [z]).length ny)) := (bel2 B98.out HBx22).setCell (p := ⟨w7.heap.size, 2, none⟩) (Nat.le_of_eq (size_set _ _ _)) _
      have hln : (([] ++ p.bands) ++ [z]).length = p.bands.length + 1 := by simp
      rw [hln] at hfy yy By
      clear hln
      refine wpAnyH_ready (rs := [15]) (by kernel_rfl) (by simp) ?_
      refine AllReadyH.cons rfl (fun K hK => ?_) AllReadyH.nil
      rw [if_pos (by rfl)]
      go_simp
      refine hK.out _ _ ?_ (fun hHeld => ?_)
      · exact hfy
      clear hK K
      try simp only [Act.put, List.getElem_toArray, List.getElem_cons_succ, List.getElem_cons_zero, List.setIfInBounds_toArray, List.set_cons_zero, List.set_cons_succ]
      refine wpAnyH_done (by kernel_rfl) ?_ _
      go_wp2_with fail
      go_meet
      case rel => exact ⟨ay, ny, yy, (ho22.prow_).at_set (by have h1 := ho22.at_ge; have h2 := lt_of_heap Y9.out; intro b o e; have := h1 b o e; omega), ho22.at_ge, By⟩
  case rest =>
    obtain ⟨ay, ny, hy, hpy, hay, hby⟩ := hcut
    have kc2 : wc.cell? ⟨w.heap.size, 2, none⟩ = some (.slice (some ⟨b, o, none⟩) (k + 1) c1) := by rw [← HLK.out]; exact plC_cell (old_block V8.out hby) 2 _ rfl
    have HYD := Lib.hid (And.intro hy (And.intro hpy (And.intro hay hby)))
    clear hy hpy hay hby
    by_cases hk0 : k = 0
    · subst hk0
      have RDY := Lib.hid HYD.out.2.1
      have RD2 := Lib.hid (HR.out.2.on (bel2 B8.out HYD.out.2.2.2))
      have RDX := Lib.hid ((O5'.out.prow_).on HYD.out.2.2.2)
      have RD7 := Lib.hid ((O7'.out.prow_).on HYD.out.2.2.2)
      have BW := Lib.hid (bel2 B8.out HYD.out.2.2.2)
      have HPY : Hid (polR { p with bands := p.bands ++ [z] } = false) := by have := pol_twice_b HP.out HK.out; rw [HLK.out] at this; rw [HZ.out]; exact this
      have HPX := Lib.hid HP.out
      have HS14 : Hid (∀ x, Below wc.heap.size wc x → x.heap[w7.heap.size]? = some (.cells (plC { p with bands := p.bands ++ [z] } ay a2 ny c2) 25 (0, 0)) ∧ x.heap[w3.heap.size]? = some (.cells (plC p a5 a7 n5 n7) 25 (0, 0)) ∧ x.cell? ⟨w.heap.size, 2, none⟩ = some (.slice (some ⟨b, o, none⟩) (0 + 1) c1)) := fun x hb => ⟨old_block HYD.out.1 hb, old_block (old_block X8.out HYD.out.2.2.2) hb, by rw [← HLK.out]; exact plC_cell (old_block (old_block V8.out HYD.out.2.2.2) hb) 2 _ rfl⟩
      go_wp2_with fail
      refine wp_region_held_drew (S := fun x => x.heap[w7.heap.size]? = some (.cells (plC { p with bands := p.bands ++ [z] } ay a2 ny c2) 25 (0, 0)) ∧ x.heap[w3.heap.size]? = some (.cells (plC p a5 a7 n5 n7) 25 (0, 0)) ∧ x.cell? ⟨w.heap.size, 2, none⟩ = some (.slice (some ⟨b, o, none⟩) (0 + 1) c1)) (by kernel_rfl) (HS14.out _ (Below.drew (Below.refl _ _))) (fun hHeld => ?_)
      refine wpAnyH_take (i := 0) (v := ?_) rfl (by kernel_rfl) (by kernel_rfl) (by kernel_rfl) (fun _ _ _ h => h) (Or.inl ⟨by rfl, ?_⟩) (by assumption) ?_
      rotate_left
      · intro w hSw
        (try dsimp only at hSw)
        go_simp
        all_goals with_reducible rfl
      try simp only [Act.put, List.getElem_toArray, List.getElem_cons_succ, List.getElem_cons_zero, List.setIfInBounds_toArray, List.set_cons_zero, List.set_cons_succ]
      refine wpAnyH_take (i := 1) (v := ?_) rfl (by kernel_rfl) (by kernel_rfl) (by kernel_rfl) (fun _ _ _ h => h) (Or.inl ⟨by rfl, ?_⟩) (by assumption) ?_
      rotate_left
      · intro w hSw
        (try dsimp only at hSw)
        go_simp
        all_goals with_reducible rfl
      try simp only [Act.put, List.getElem_toArray, List.getElem_cons_succ, List.getElem_cons_zero, List.setIfInBounds_toArray, List.set_cons_zero, List.set_cons_succ]
      refine wpAnyH_take (i := 2) (v := .agg (plC { p with bands := p.bands ++ [z] } ay a2 ny c2)) rfl (by kernel_rfl) (by kernel_rfl) (by kernel_rfl) (fun _ _ _ h => h) (Or.inl ⟨by rfl, fun w hS => exec_load_rowP 25 (.tmp 7) rfl w7.heap.size rfl 25 (plC { p with bands := p.bands ++ [z] } ay a2 ny c2) (0, 0) _ hS.1 Try.underlying25 rfl (by kernel_rfl)⟩) (by assumption) ?_
      try simp only [Act.put, List.getElem_toArray, List.getElem_cons_succ, List.getElem_cons_zero, List.setIfInBounds_toArray, List.set_cons_zero, List.set_cons_succ]
      refine wpAnyH_ready (rs := [3]) (by kernel_rfl) (by simp) ?_
      refine AllReadyH.cons rfl (fun K hK => ?_) AllReadyH.nil
      rw [if_pos (by rfl)]
      go_simp
      go_at_call 15
      refine (pol_to HPY.out (RDY.out.on (Below.drew (Below.refl _ _))) (RD2.out.on (Below.drew (Below.refl _ _)))).mono ?_
      rintro r we ⟨rfl, he⟩
      have BE := Lib.hid (bel2 (Below.drew (Below.refl _ _)) he)
      clear he
      refine hK.out _ _ ?_ (fun hHeld => ?_)
      · exact HS14.out _ BE.out
      clear hK K
      try simp only [Act.put, List.getElem_toArray, List.getElem_cons_succ, List.getElem_cons_zero, List.setIfInBounds_toArray, List.set_cons_zero, List.set_cons_succ]
      refine wpAnyH_take (i := 4) (v := ?_) rfl (by kernel_rfl) (by kernel_rfl) (by kernel_rfl) (fun _ _ _ h => h) (Or.inl ⟨by rfl, ?_⟩) (by assumption) ?_
      rotate_left
      · intro w hSw
        (try dsimp only at hSw)
        go_simp
        all_goals with_reducible rfl
      try simp only [Act.put, List.getElem_toArray, List.getElem_cons_succ, List.getElem_cons_zero, List.setIfInBounds_toArray, List.set_cons_zero, List.set_cons_succ]
      refine wpAnyH_take (i := 5) (v := ?_) rfl (by kernel_rfl) (by kernel_rfl) (by kernel_rfl) (fun _ _ _ h => h) (Or.inl ⟨by rfl, ?_⟩) (by assumption) ?_
      rotate_left
      · intro w hSw
        (try dsimp only at hSw)
        go_simp
        all_goals with_reducible rfl
      try simp only [Act.put, List.getElem_toArray, List.getElem_cons_succ, List.getElem_cons_zero, List.setIfInBounds_toArray, List.set_cons_zero, List.set_cons_succ]
      refine wpAnyH_take (i := 6) (v := ?_) rfl (by kernel_rfl) (by kernel_rfl) (by kernel_rfl) (fun _ _ _ h => h) (Or.inl ⟨by rfl, ?_⟩) (by assumption) ?_
      rotate_left
      · intro w hSw
        (try dsimp only at hSw)
        go_simp
        all_goals with_reducible rfl
      try simp only [Act.put, List.getElem_toArray, List.getElem_cons_succ, List.getElem_cons_zero, List.setIfInBounds_toArray, List.set_cons_zero, List.set_cons_succ]
      refine wpAnyH_take (i := 7) (v := .agg (plC p a5 a7 n5 n7)) rfl (by kernel_rfl) (by kernel_rfl) (by kernel_rfl) (fun _ _ _ h => h) (Or.inl ⟨by rfl, fun w hS => exec_load_rowP 25 (.tmp 6) rfl w3.heap.size rfl 25 (plC p a5 a7 n5 n7) (0, 0) _ hS.2.1 Try.underlying25 rfl (by kernel_rfl)⟩) (by assumption) ?_
      try simp only [Act.put, List.getElem_toArray, List.getElem_cons_succ, List.getElem_cons_zero, List.setIfInBounds_toArray, List.set_cons_zero, List.set_cons_succ]
      refine wpAnyH_take (i := 9) (v := ?_) rfl (by kernel_rfl) (by kernel_rfl) (by kernel_rfl) (fun _ _ _ h => h) (Or.inl ⟨by rfl, ?_⟩) (by assumption) ?_
      rotate_left
      · intro w hSw
        (try dsimp only at hSw)
        go_simp
        all_goals with_reducible rfl
      try simp only [Act.put, List.getElem_toArray, List.getElem_cons_succ, List.getElem_cons_zero, List.setIfInBounds_toArray, List.set_cons_zero, List.set_cons_succ]
      refine wpAnyH_take (i := 10) (v := ?_) rfl (by kernel_rfl) (by kernel_rfl) (by kernel_rfl) (fun _ _ _ h => h) (Or.inl ⟨by rfl, ?_⟩) (by assumption) ?_
      rotate_left
      · intro w hSw
        (try dsimp only at hSw)
        go_simp
        all_goals with_reducible rfl
      try simp only [Act.put, List.getElem_toArray, List.getElem_cons_succ, List.getElem_cons_zero, List.setIfInBounds_toArray, List.set_cons_zero, List.set_cons_succ]
      refine wpAnyH_take (i := 11) (v := ?_) rfl (by kernel_rfl) (by kernel_rfl) (by kernel_rfl) (fun _ _ _ h => h) (Or.inl ⟨by rfl, ?_⟩) (by assumption) ?_
      rotate_left
      · intro w hSw
        (try dsimp only at hSw)
        go_simp
        all_goals with_reducible rfl
      try simp only [Act.put, List.getElem_toArray, List.getElem_cons_succ, List.getElem_cons_zero, List.setIfInBounds_toArray, List.set_cons_zero, List.set_cons_succ]
      refine wpAnyH_take (i := 12) (v := ?_) rfl (by kernel_rfl) (by kernel_rfl) (by kernel_rfl) (fun _ _ _ h => h) (Or.inl ⟨by rfl, ?_⟩) (by assumption) ?_
      rotate_left
      · intro w hSw
        (try dsimp only at hSw)
        go_simp
        all_goals with_reducible rfl
      try simp only [Act.put, List.getElem_toArray, List.getElem_cons_succ, List.getElem_cons_zero, List.setIfInBounds_toArray, List.set_cons_zero, List.set_cons_succ]
      refine wpAnyH_ready (rs := [8]) (by kernel_rfl) (by simp) ?_
      refine AllReadyH.cons rfl (fun K hK => ?_) AllReadyH.nil
      rw [if_pos (by rfl)]
      go_simp
      go_at_call 15
      refine (pol_to HPX.out (RDX.out.on BE.out) (RD7.out.on BE.out)).mono ?_
      rintro r wf ⟨rfl, hf⟩
      have BF := Lib.hid (bel2 BE.out hf)
      clear hf
      refine hK.out _ _ ?_ (fun hHeld => ?_)
      · exact HS14.out _ BF.out
      clear hK K
      try simp only [Act.put, List.getElem_toArray, List.getElem_cons_succ, List.getElem_cons_zero, List.setIfInBounds_toArray, List.set_cons_zero, List.set_cons_succ]
      refine wpAnyH_take (i := 13) (v := ?_) rfl (by kernel_rfl) (by kernel_rfl) (by kernel_rfl) (fun _ _ _ h => h) (Or.inl ⟨by rfl, ?_⟩) (by assumption) ?_
      rotate_left
      · intro w hSw
        (try dsimp only at hSw)
        go_simp
        all_goals with_reducible rfl
      try simp only [Act.put, List.getElem_toArray, List.getElem_cons_succ, List.getElem_cons_zero, List.setIfInBounds_toArray, List.set_cons_zero, List.set_cons_succ]
      refine wpAnyH_take (i := 14) (v := ?_) rfl (by kernel_rfl) (by kernel_rfl) (by kernel_rfl) (fun _ _ _ h => h) (Or.inl ⟨by rfl, ?_⟩) (by assumption) ?_
      rotate_left
      · intro w hSw
        (try dsimp only at hSw)
        go_simp
        all_goals with_reducible rfl
      try simp only [Act.put, List.getElem_toArray, List.getElem_cons_succ, List.getElem_cons_zero, List.setIfInBounds_toArray, List.set_cons_zero, List.set_cons_succ]
      refine wpAnyH_take (i := 15) (v := ?_) rfl (by kernel_rfl) (by kernel_rfl) (by kernel_rfl) (fun _ _ _ h => h) (Or.inl ⟨by rfl, ?_⟩) (by assumption) ?_
      rotate_left
      · intro w hSw
        (try dsimp only at hSw)
        go_simp
        all_goals with_reducible rfl
      try simp only [Act.put, List.getElem_toArray, List.getElem_cons_succ, List.getElem_cons_zero, List.setIfInBounds_toArray, List.set_cons_zero, List.set_cons_succ]
      refine wpAnyH_done (by kernel_rfl) ?_ _
      clear hHeld
      go_wp2
      go_ret
      exact ⟨rfl, bel2 BW.out BF.out⟩
    have hj : ∃ j : Nat, (wrap64 at_).tmod (k : Int) = (j : Int) ∧ j < k := by
      have h := HA.out
      have e1 : wrap64 at_ = at_ := by unfold wrap64; omega
      rw [e1, Int.tmod_eq_emod_of_nonneg h.1]
      have h1 := Int.emod_nonneg at_ (show (k : Int) ≠ 0 by omega)
      have h2 := Int.emod_lt_of_pos at_ (show (0 : Int) < (k : Int) by omega)
      exact ⟨(at_ % (k : Int)).toNat, by omega, by omega⟩
    obtain ⟨j, hj, hjk⟩ := hj
    have HJ := Lib.hid (And.intro hj (And.intro hjk hk0))
    clear hj hjk
    go_wp2_with fail
    rw [HJ.out.1]
    have O9 := O5'.out.below HYD.out.2.2.2
    obtain ⟨g5, cur, ea5, hg5, hcur, hsz⟩ := O9.at0 (by rw [HLK.out]; omega)
    subst ea5
    rw [HLK.out] at hsz
    have c0 := HCC.out j (by have := HLK.out; have := HJ.out.2.1; omega)
    have c1' := HCC.out (j + 1) (by have := HLK.out; have := HJ.out.2.1; omega)
    obtain ⟨z0, hz0⟩ : ∃ z, z = p.bands.getD j (0, 0) := ⟨_, rfl⟩
    obtain ⟨z1, hz1⟩ : ∃ z, z = p.bands.getD (j + 1) (0, 0) := ⟨_, rfl⟩
    rw [← hz0] at c0
    rw [← hz1] at c1'
    have BW := Lib.hid (bel2 B8.out HYD.out.2.2.2)
    have HZZ := Lib.hid (And.intro hz0 hz1)
    have q8 : g5 < w7.heap.size := by have h := (World.ownsRow.lt O5'.out g5 rfl).2; rw [size_set] at h; exact h
    have HG5 := Lib.hid (And.intro hg5 (And.intro hcur (And.intro hsz q8)))
    have HSP : Hid (∀ x, But (fun i => i = g5) wc x → x.cell? ⟨w3.heap.size, 2, none⟩ = some (.slice (some ⟨g5, 0, none⟩) (k + 1) n5) ∧ x.cell? ⟨w.heap.size, 2, none⟩ = some (.slice (some ⟨b, o, none⟩) (k + 1) c1) ∧ (x.cell? ⟨b, o + j * 2, none⟩ = some (.int .i64 z0.1) ∧ x.cell? ⟨b, o + j * 2 + 1, none⟩ = some (.int .i64 z0.2)) ∧ x.cell? ⟨b, o + (j + 1) * 2, none⟩ = some (.int .i64 z1.1) ∧ x.cell? ⟨b, o + (j + 1) * 2 + 1, none⟩ = some (.int .i64 z1.2)) := fun x hb => by
      have h1 := HQ.out
      have h2 := HBL.out
      refine ⟨cell_but hb (by rw [← HLK.out]; exact plC_cell (old_block X8.out HYD.out.2.2.2) 2 _ rfl) (by show w3.heap.size ≠ g5; omega), cell_but hb (by rw [← HLK.out]; exact plC_cell (old_block V8.out HYD.out.2.2.2) 2 _ rfl) (by show w.heap.size ≠ g5; omega), ⟨?_, ?_⟩, ?_, ?_⟩
      · exact cell_but hb ((BW.out.cell (p := ⟨b, o + j * 2, none⟩) HBL.out).trans c0.1) (by show b ≠ g5; omega)
      · exact cell_but hb ((BW.out.cell (p := ⟨b, o + j * 2 + 1, none⟩) HBL.out).trans c0.2) (by show b ≠ g5; omega)
      · exact cell_but hb ((BW.out.cell (p := ⟨b, o + (j + 1) * 2, none⟩) HBL.out).trans c1'.1) (by show b ≠ g5; omega)
      · exact cell_but hb ((BW.out.cell (p := ⟨b, o + (j + 1) * 2 + 1, none⟩) HBL.out).trans c1'.2) (by show b ≠ g5; omega)
    have jb : (j : Int) < (k : Int) + 1 := by have := HJ.out.2.1; omega
    have jb1 : (j : Int) + 1 < (k : Int) + 1 := by have := HJ.out.2.1; omega
    have jw : IntKind.i64.wrap ((j : Int) + 1) = (j : Int) + 1 := by have := HJ.out.2.1; have := HKB.out; rw [IntKind.wrap_i64]; omega
    have j0 : (0 : Int) ≤ (j : Int) + 1 := by omega
    have jn : ((j : Int) + 1).toNat = j + 1 := by omega
    obtain ⟨wd, ed⟩ : ∃ x, wc.drew.setCells g5 (j * 2) (#[.int .i64 z1.1, .int .i64 z1.2] : Array Value).toList = x := ⟨_, rfl⟩
    have bd : But (fun i => i = g5) wc wd := by rw [← ed]; exact ((But.refl _ wc).drew).trans (but_setCells _ _ _ _) (fun _ h => .inl h)
    have od : OwnP wd w4.heap.size 46 (.slice (some ⟨g5, 0, none⟩) p.bands.length n5) (p.bands.set j z1) := by rw [← ed]; exact OwnP.set2 (w := wc.drew) O9 j z1
    have ED := Lib.hid ed
    have BD := Lib.hid bd
    have OD := Lib.hid od
    clear ed bd od O9 c0 c1' hz0 hz1 hg5 hcur hsz q8
    refine wp_region_held_drew (S := fun x => x.cell? ⟨w3.heap.size, 2, none⟩ = some (.slice (some ⟨g5, 0, none⟩) (k + 1) n5) ∧ x.cell? ⟨w.heap.size, 2, none⟩ = some (.slice (some ⟨b, o, none⟩) (k + 1) c1) ∧ (x.cell? ⟨b, o + j * 2, none⟩ = some (.int .i64 z0.1) ∧ x.cell? ⟨b, o + j * 2 + 1, none⟩ = some (.int .i64 z0.2)) ∧ x.cell? ⟨b, o + (j + 1) * 2, none⟩ = some (.int .i64 z1.1) ∧ x.cell? ⟨b, o + (j + 1) * 2 + 1, none⟩ = some (.int .i64 z1.2)) (by kernel_rfl) (HSP.out _ (But.refl _ wc).drew) (fun hHeld => ?_)
    refine wpAnyH_take (i := 0) (v := ?_) rfl (by kernel_rfl) (by kernel_rfl) (by kernel_rfl) (fun _ _ _ h => h) (Or.inl ⟨by rfl, ?_⟩) (by assumption) ?_
    rotate_left
    · intro w hSw
      (try dsimp only at hSw)
      go_simp
      all_goals with_reducible rfl
    try simp only [Act.put, List.getElem_toArray, List.getElem_cons_succ, List.getElem_cons_zero, List.setIfInBounds_toArray, List.set_cons_zero, List.set_cons_succ]
    refine wpAnyH_take (i := 1) (v := ?_) rfl (by kernel_rfl) (by kernel_rfl) (by kernel_rfl) (fun _ _ _ h => h) (Or.inl ⟨by rfl, ?_⟩) (by assumption) ?_
    rotate_left
    · intro w hSw
      (try dsimp only at hSw)
      go_simp
      all_goals with_reducible rfl
    try simp only [Act.put, List.getElem_toArray, List.getElem_cons_succ, List.getElem_cons_zero, List.setIfInBounds_toArray, List.set_cons_zero, List.set_cons_succ]
    refine wpAnyH_take (i := 2) (v := ?_) rfl (by kernel_rfl) (by kernel_rfl) (by kernel_rfl) (fun _ _ _ h => h) (Or.inl ⟨by rfl, ?_⟩) (by assumption) ?_
    rotate_left
    · intro w hSw
      (try dsimp only at hSw)
      go_simp
      all_goals with_reducible rfl
    try simp only [Act.put, List.getElem_toArray, List.getElem_cons_succ, List.getElem_cons_zero, List.setIfInBounds_toArray, List.set_cons_zero, List.set_cons_succ]
    refine wpAnyH_take (i := 3) (v := ?_) rfl (by kernel_rfl) (by kernel_rfl) (by kernel_rfl) (fun _ _ _ h => h) (Or.inl ⟨by rfl, ?_⟩) (by assumption) ?_
    rotate_left
    · intro w hSw
      (try dsimp only at hSw)
      go_simp
      all_goals with_reducible rfl
    try simp only [Act.put, List.getElem_toArray, List.getElem_cons_succ, List.getElem_cons_zero, List.setIfInBounds_toArray, List.set_cons_zero, List.set_cons_succ]
    refine wpAnyH_take (i := 4) (v := ?_) rfl (by kernel_rfl) (by kernel_rfl) (by kernel_rfl) (fun _ _ _ h => h) (Or.inl ⟨by rfl, ?_⟩) (by assumption) ?_
    rotate_left
    · intro w hSw
      (try dsimp only at hSw)
      go_simp
      all_goals with_reducible rfl
    try simp only [Act.put, List.getElem_toArray, List.getElem_cons_succ, List.getElem_cons_zero, List.setIfInBounds_toArray, List.set_cons_zero, List.set_cons_succ]
    refine wpAnyH_take (i := 5) (v := ?_) rfl (by kernel_rfl) (by kernel_rfl) (by kernel_rfl) (fun _ _ _ h => h) (Or.inl ⟨by rfl, ?_⟩) (by assumption) ?_
    rotate_left
    · intro w hSw
      (try dsimp only at hSw)
      go_simp
      all_goals with_reducible rfl
    try simp only [Act.put, List.getElem_toArray, List.getElem_cons_succ, List.getElem_cons_zero, List.setIfInBounds_toArray, List.set_cons_zero, List.set_cons_succ]
    refine wpAnyH_take (i := 6) (v := ?_) rfl (by kernel_rfl) (by kernel_rfl) (by kernel_rfl) (fun _ _ _ h => h) (Or.inl ⟨by rfl, ?_⟩) (by assumption) ?_
    rotate_left
    · intro w hSw
      (try dsimp only at hSw)
      go_simp
      all_goals with_reducible rfl
    try simp only [Act.put, List.getElem_toArray, List.getElem_cons_succ, List.getElem_cons_zero, List.setIfInBounds_toArray, List.set_cons_zero, List.set_cons_succ]
    refine wpAnyH_take (i := 7) (v := ?_) rfl (by kernel_rfl) (by kernel_rfl) (by kernel_rfl) (fun _ _ _ h => h) (Or.inl ⟨by rfl, ?_⟩) (by assumption) ?_
    rotate_left
    · intro w hSw
      (try dsimp only at hSw)
      go_simp
      all_goals with_reducible rfl
    try simp only [Act.put, List.getElem_toArray, List.getElem_cons_succ, List.getElem_cons_zero, List.setIfInBounds_toArray, List.set_cons_zero, List.set_cons_succ]
    refine wpAnyH_take (i := 8) (v := ?_) rfl (by kernel_rfl) (by kernel_rfl) (by kernel_rfl) (fun _ _ _ h => h) (Or.inl ⟨by rfl, ?_⟩) (by assumption) ?_
    rotate_left
    · intro w hSw
      (try dsimp only at hSw)
      go_simp
      all_goals with_reducible rfl
    try simp only [Act.put, List.getElem_toArray, List.getElem_cons_succ, List.getElem_cons_zero, List.setIfInBounds_toArray, List.set_cons_zero, List.set_cons_succ]
    refine wpAnyH_take (i := 9) (v := ?_) rfl (by kernel_rfl) (by kernel_rfl) (by kernel_rfl) (fun _ _ _ h => h) (Or.inl ⟨by rfl, ?_⟩) (by assumption) ?_
    rotate_left
    · intro w hSw
      (try dsimp only at hSw)
      go_simp
      all_goals with_reducible rfl
    try simp only [Act.put, List.getElem_toArray, List.getElem_cons_succ, List.getElem_cons_zero, List.setIfInBounds_toArray, List.set_cons_zero, List.set_cons_succ]
    refine wpAnyH_ready (rs := [10]) (by kernel_rfl) (by simp) ?_
    refine AllReadyH.cons rfl (fun K hK => ?_) AllReadyH.nil
    rw [if_pos (by rfl)]
    refine wp_store_mid 46 (.tmp 69) (.tmp 68) (by rfl) g5 (j * 2) #[.int .i64 z1.1, .int .i64 z1.2] (by rfl) (by rfl) (there_row (w := wc.drew) HG5.out.2.1 (by have := HG5.out.2.2.1; have := HJ.out.2.1; show j * 2 + 2 ≤ _; omega)) (by kernel_rfl) (by kernel_rfl) ?_
    rw [ED.out]
    refine hK.out _ _ ?_ (fun hHeld => ?_)
    · exact HSP.out _ BD.out
    clear hK K
    try simp only [Act.put, List.getElem_toArray, List.getElem_cons_succ, List.getElem_cons_zero, List.setIfInBounds_toArray, List.set_cons_zero, List.set_cons_succ]
    refine wpAnyH_done (by kernel_rfl) ?_ _
    clear hHeld
    go_wp2_with fail
    obtain ⟨w14, e14⟩ : ∃ x, wd.drew.setCells g5 ((j + 1) * 2) (#[.int .i64 z0.1, .int .i64 z0.2] : Array Value).toList = x := ⟨_, rfl⟩
    have b14 : But (fun i => i = g5) wc w14 := by rw [← e14]; exact BD.out.drew.trans (but_setCells _ _ _ _) (fun _ h => .inl h)
    have o14 : OwnP w14 w4.heap.size 46 (.slice (some ⟨g5, 0, none⟩) p.bands.length n5) ((p.bands.set j z1).set (j + 1) z0) := by rw [← e14]; exact OwnP.set2 (w := wd.drew) OD.out (j + 1) z0
    have E14 := Lib.hid e14
    have HB14 := Lib.hid b14
    have HO14 := Lib.hid o14
    obtain ⟨g6, cur6, ea6, hg6, hcur6, hsz6⟩ := OD.out.at0 (by rw [List.length_set, HLK.out]; omega)
    injection ea6 with ea6
    injection ea6 with ea6
    subst ea6
    have HG6 := Lib.hid (And.intro hcur6 hsz6)
    clear e14 b14 o14 hg6 hcur6 hsz6
    refine wp_region_held_drew (S := fun x => x.cell? ⟨w3.heap.size, 2, none⟩ = some (.slice (some ⟨g5, 0, none⟩) (k + 1) n5) ∧ x.cell? ⟨w.heap.size, 2, none⟩ = some (.slice (some ⟨b, o, none⟩) (k + 1) c1) ∧ (x.cell? ⟨b, o + j * 2, none⟩ = some (.int .i64 z0.1) ∧ x.cell? ⟨b, o + j * 2 + 1, none⟩ = some (.int .i64 z0.2)) ∧ x.cell? ⟨b, o + (j + 1) * 2, none⟩ = some (.int .i64 z1.1) ∧ x.cell? ⟨b, o + (j + 1) * 2 + 1, none⟩ = some (.int .i64 z1.2)) (by kernel_rfl) (HSP.out _ BD.out.drew) (fun hHeld => ?_)
    refine wpAnyH_take (i := 0) (v := ?_) rfl (by kernel_rfl) (by kernel_rfl) (by kernel_rfl) (fun _ _ _ h => h) (Or.inl ⟨by rfl, ?_⟩) (by assumption) ?_
    rotate_left
    · intro w hSw
      (try dsimp only at hSw)
      go_simp
      all_goals with_reducible rfl
    try simp only [Act.put, List.getElem_toArray, List.getElem_cons_succ, List.getElem_cons_zero, List.setIfInBounds_toArray, List.set_cons_zero, List.set_cons_succ]
    refine wpAnyH_take (i := 1) (v := ?_) rfl (by kernel_rfl) (by kernel_rfl) (by kernel_rfl) (fun _ _ _ h => h) (Or.inl ⟨by rfl, ?_⟩) (by assumption) ?_
    rotate_left
    · intro w hSw
      (try dsimp only at hSw)
      go_simp
      all_goals with_reducible rfl
    try simp only [Act.put, List.getElem_toArray, List.getElem_cons_succ, List.getElem_cons_zero, List.setIfInBounds_toArray, List.set_cons_zero, List.set_cons_succ]
    refine wpAnyH_take (i := 2) (v := ?_) rfl (by kernel_rfl) (by kernel_rfl) (by kernel_rfl) (fun _ _ _ h => h) (Or.inl ⟨by rfl, ?_⟩) (by assumption) ?_
    rotate_left
    · intro w hSw
      (try dsimp only at hSw)
      go_simp
      all_goals with_reducible rfl
    try simp only [Act.put, List.getElem_toArray, List.getElem_cons_succ, List.getElem_cons_zero, List.setIfInBounds_toArray, List.set_cons_zero, List.set_cons_succ]
    refine wpAnyH_take (i := 3) (v := ?_) rfl (by kernel_rfl) (by kernel_rfl) (by kernel_rfl) (fun _ _ _ h => h) (Or.inl ⟨by rfl, ?_⟩) (by assumption) ?_
    rotate_left
    · intro w hSw
      (try dsimp only at hSw)
      go_simp
      all_goals with_reducible rfl
    try simp only [Act.put, List.getElem_toArray, List.getElem_cons_succ, List.getElem_cons_zero, List.setIfInBounds_toArray, List.set_cons_zero, List.set_cons_succ]
    refine wpAnyH_take (i := 4) (v := ?_) rfl (by kernel_rfl) (by kernel_rfl) (by kernel_rfl) (fun _ _ _ h => h) (Or.inl ⟨by rfl, ?_⟩) (by assumption) ?_
    rotate_left
    · intro w hSw
      (try dsimp only at hSw)
      go_simp
      all_goals with_reducible rfl
    try simp only [Act.put, List.getElem_toArray, List.getElem_cons_succ, List.getElem_cons_zero, List.setIfInBounds_toArray, List.set_cons_zero, List.set_cons_succ]
    refine wpAnyH_take (i := 5) (v := ?_) rfl (by kernel_rfl) (by kernel_rfl) (by kernel_rfl) (fun _ _ _ h => h) (Or.inl ⟨by rfl, ?_⟩) (by assumption) ?_
    rotate_left
    · intro w hSw
      (try dsimp only at hSw)
      go_simp
      all_goals with_reducible rfl
    try simp only [Act.put, List.getElem_toArray, List.getElem_cons_succ, List.getElem_cons_zero, List.setIfInBounds_toArray, List.set_cons_zero, List.set_cons_succ]
    refine wpAnyH_take (i := 6) (v := ?_) rfl (by kernel_rfl) (by kernel_rfl) (by kernel_rfl) (fun _ _ _ h => h) (Or.inl ⟨by rfl, ?_⟩) (by assumption) ?_
    rotate_left
    · intro w hSw
      (try dsimp only at hSw)
      go_simp
      all_goals with_reducible rfl
    try simp only [Act.put, List.getElem_toArray, List.getElem_cons_succ, List.getElem_cons_zero, List.setIfInBounds_toArray, List.set_cons_zero, List.set_cons_succ]
    refine wpAnyH_take (i := 7) (v := ?_) rfl (by kernel_rfl) (by kernel_rfl) (by kernel_rfl) (fun _ _ _ h => h) (Or.inl ⟨by rfl, ?_⟩) (by assumption) ?_
    rotate_left
    · intro w hSw
      (try dsimp only at hSw)
      go_simp
      all_goals with_reducible rfl
    try simp only [Act.put, List.getElem_toArray, List.getElem_cons_succ, List.getElem_cons_zero, List.setIfInBounds_toArray, List.set_cons_zero, List.set_cons_succ]
    refine wpAnyH_take (i := 8) (v := ?_) rfl (by kernel_rfl) (by kernel_rfl) (by kernel_rfl) (fun _ _ _ h => h) (Or.inl ⟨by rfl, ?_⟩) (by assumption) ?_
    rotate_left
    · intro w hSw
      (try dsimp only at hSw)
      go_simp
      all_goals with_reducible rfl
    try simp only [Act.put, List.getElem_toArray, List.getElem_cons_succ, List.getElem_cons_zero, List.setIfInBounds_toArray, List.set_cons_zero, List.set_cons_succ]
    refine wpAnyH_take (i := 9) (v := ?_) rfl (by kernel_rfl) (by kernel_rfl) (by kernel_rfl) (fun _ _ _ h => h) (Or.inl ⟨by rfl, ?_⟩) (by assumption) ?_
    rotate_left
    · intro w hSw
      (try dsimp only at hSw)
      go_simp
      all_goals with_reducible rfl
    try simp only [Act.put, List.getElem_toArray, List.getElem_cons_succ, List.getElem_cons_zero, List.setIfInBounds_toArray, List.set_cons_zero, List.set_cons_succ]
    refine wpAnyH_ready (rs := [10]) (by kernel_rfl) (by simp) ?_
    refine AllReadyH.cons rfl (fun K hK => ?_) AllReadyH.nil
    rw [if_pos (by rfl)]
    refine wp_store_mid 46 (.tmp 79) (.tmp 78) (by rfl) g5 ((j + 1) * 2) #[.int .i64 z0.1, .int .i64 z0.2] (by rfl) (by rfl) (there_row (w := wd.drew) HG6.out.1 (by have := HG6.out.2; rw [List.length_set, HLK.out] at this; have := HJ.out.2.1; show (j + 1) * 2 + 2 ≤ _; omega)) (by kernel_rfl) (by kernel_rfl) ?_
    rw [E14.out]
    refine hK.out _ _ ?_ (fun hHeld => ?_)
    · exact HSP.out _ HB14.out
    clear hK K
    try simp only [Act.put, List.getElem_toArray, List.getElem_cons_succ, List.getElem_cons_zero, List.setIfInBounds_toArray, List.set_cons_zero, List.set_cons_succ]
    refine wpAnyH_done (by kernel_rfl) ?_ _
    clear hHeld
    have h1 := HQ.out
    have h2 := HBL.out
    have hg5 := HG5.out.1
    have q8 := HG5.out.2.2.2
    have q9 : w7.heap.size < w9.heap.size := lt_of_heap Y9.out
    have b14 := HB14.out
    have hs0 : p.slots.length = 0 := by rw [(pol_two HP.out HK.out).2.2.2]; rfl
    have bw14 : Below w.heap.size w w14 := BW.out.trans (b14.below BW.out.size (fun i hi => by subst hi; omega))
    have x14 : w14.heap[w3.heap.size]? = some (.cells (plC { p with bands := sw p.bands j } (some ⟨g5, 0, none⟩) a7 n5 n7) 25 (0, 0)) := by
      have h := block_but b14 (old_block X8.out HYD.out.2.2.2) (by omega)
      unfold plC at h ⊢
      simp only [sw_len]
      exact h
    have y14 := block_but b14 HYD.out.1 (by omega)
    have v14 := block_but b14 (old_block V8.out HYD.out.2.2.2) (by omega)
    have RDY := Lib.hid (HYD.out.2.1.keep b14 (fun _ i u e hi => by have := HYD.out.2.2.1 i u e; omega))
    have RD2 := Lib.hid (HR.out.2.on bw14)
    have RD7 := Lib.hid (((O7'.out.prow_).on HYD.out.2.2.2).keep b14 (fun hp => by omega))
    have RDX : Hid (PRow w14 (some ⟨g5, 0, none⟩) (sw p.bands j).length n5 (sw p.bands j)) := by
      have h := HO14.out.prow_
      rw [HZZ.out.1, HZZ.out.2] at h
      show PRow _ _ _ _ _
      rw [sw_len]
      exact h
    have BWE := Lib.hid bw14
    have HPY : Hid (polR { p with bands := p.bands ++ [z] } = false) := by have := pol_twice_b HP.out HK.out; rw [HLK.out] at this; rw [HZ.out]; exact this
    have HPX := Lib.hid (pol_swap (k := j) HP.out HK.out (by rw [HLK.out]; have := HJ.out.2.1; omega))
    have HXYV := Lib.hid (And.intro x14 (And.intro y14 v14))
    have HS14 : Hid (∀ x, Below w14.heap.size w14 x → x.heap[w7.heap.size]? = some (.cells (plC { p with bands := p.bands ++ [z] } ay a2 ny c2) 25 (0, 0)) ∧ x.heap[w3.heap.size]? = some (.cells (plC { p with bands := sw p.bands j } (some ⟨g5, 0, none⟩) a7 n5 n7) 25 (0, 0)) ∧ x.cell? ⟨w.heap.size, 2, none⟩ = some (.slice (some ⟨b, o, none⟩) (k + 1) c1)) := fun x hb => ⟨old_block HXYV.out.2.1 hb, old_block HXYV.out.1 hb, by rw [← HLK.out]; exact plC_cell (old_block HXYV.out.2.2 hb) 2 _ rfl⟩
    have kl2 : decide ((k : Int) + 1 < 2) = false := by have := HJ.out.2.2; simp; omega
    clear h1 h2 hg5 q8 q9 b14 hs0 bw14 x14 y14 v14
    go_wp2_with fail
    refine wp_region_held_drew (S := fun x => x.heap[w7.heap.size]? = some (.cells (plC { p with bands := p.bands ++ [z] } ay a2 ny c2) 25 (0, 0)) ∧ x.heap[w3.heap.size]? = some (.cells (plC { p with bands := sw p.bands j } (some ⟨g5, 0, none⟩) a7 n5 n7) 25 (0, 0)) ∧ x.cell? ⟨w.heap.size, 2, none⟩ = some (.slice (some ⟨b, o, none⟩) (k + 1) c1)) (by kernel_rfl) (HS14.out _ (Below.drew (Below.refl _ _))) (fun hHeld => ?_)
    refine wpAnyH_take (i := 0) (v := ?_) rfl (by kernel_rfl) (by kernel_rfl) (by kernel_rfl) (fun _ _ _ h => h) (Or.inl ⟨by rfl, ?_⟩) (by assumption) ?_
    rotate_left
    · intro w hSw
      (try dsimp only at hSw)
      go_simp
      all_goals with_reducible rfl
    try simp only [Act.put, List.getElem_toArray, List.getElem_cons_succ, List.getElem_cons_zero, List.setIfInBounds_toArray, List.set_cons_zero, List.set_cons_succ]
    refine wpAnyH_take (i := 1) (v := ?_) rfl (by kernel_rfl) (by kernel_rfl) (by kernel_rfl) (fun _ _ _ h => h) (Or.inl ⟨by rfl, ?_⟩) (by assumption) ?_
    rotate_left
    · intro w hSw
      (try dsimp only at hSw)
      go_simp
      all_goals with_reducible rfl
    try simp only [Act.put, List.getElem_toArray, List.getElem_cons_succ, List.getElem_cons_zero, List.setIfInBounds_toArray, List.set_cons_zero, List.set_cons_succ]
    refine wpAnyH_take (i := 2) (v := .agg (plC { p with bands := p.bands ++ [z] } ay a2 ny c2)) rfl (by kernel_rfl) (by kernel_rfl) (by kernel_rfl) (fun _ _ _ h => h) (Or.inl ⟨by rfl, fun w hS => exec_load_rowP 25 (.tmp 7) rfl w7.heap.size rfl 25 (plC { p with bands := p.bands ++ [z] } ay a2 ny c2) (0, 0) _ hS.1 Try.underlying25 rfl (by kernel_rfl)⟩) (by assumption) ?_
    try simp only [Act.put, List.getElem_toArray, List.getElem_cons_succ, List.getElem_cons_zero, List.setIfInBounds_toArray, List.set_cons_zero, List.set_cons_succ]
    refine wpAnyH_ready (rs := [3]) (by kernel_rfl) (by simp) ?_
    refine AllReadyH.cons rfl (fun K hK => ?_) AllReadyH.nil
    rw [if_pos (by rfl)]
    go_simp
    go_at_call 15
    refine (pol_to HPY.out (RDY.out.on (Below.drew (Below.refl _ _))) (RD2.out.on (Below.drew (Below.refl _ _)))).mono ?_
    rintro r we ⟨rfl, he⟩
    have BE := Lib.hid (bel2 (Below.drew (Below.refl _ _)) he)
    clear he
    refine hK.out _ _ ?_ (fun hHeld => ?_)
    · exact HS14.out _ BE.out
    clear hK K
    try simp only [Act.put, List.getElem_toArray, List.getElem_cons_succ, List.getElem_cons_zero, List.setIfInBounds_toArray, List.set_cons_zero, List.set_cons_succ]
    refine wpAnyH_take (i := 4) (v := ?_) rfl (by kernel_rfl) (by kernel_rfl) (by kernel_rfl) (fun _ _ _ h => h) (Or.inl ⟨by rfl, ?_⟩) (by assumption) ?_
    rotate_left
    · intro w hSw
      (try dsimp only at hSw)
      go_simp
      all_goals with_reducible rfl
    try simp only [Act.put, List.getElem_toArray, List.getElem_cons_succ, List.getElem_cons_zero, List.setIfInBounds_toArray, List.set_cons_zero, List.set_cons_succ]
    refine wpAnyH_take (i := 5) (v := ?_) rfl (by kernel_rfl) (by kernel_rfl) (by kernel_rfl) (fun _ _ _ h => h) (Or.inl ⟨by rfl, ?_⟩) (by assumption) ?_
    rotate_left
    · intro w hSw
      (try dsimp only at hSw)
      go_simp
      all_goals with_reducible rfl
    try simp only [Act.put, List.getElem_toArray, List.getElem_cons_succ, List.getElem_cons_zero, List.setIfInBounds_toArray, List.set_cons_zero, List.set_cons_succ]
    refine wpAnyH_take (i := 6) (v := ?_) rfl (by kernel_rfl) (by kernel_rfl) (by kernel_rfl) (fun _ _ _ h => h) (Or.inl ⟨by rfl, ?_⟩) (by assumption) ?_
    rotate_left
    · intro w hSw
      (try dsimp only at hSw)
      go_simp
      all_goals with_reducible rfl
    try simp only [Act.put, List.getElem_toArray, List.getElem_cons_succ, List.getElem_cons_zero, List.setIfInBounds_toArray, List.set_cons_zero, List.set_cons_succ]
    refine wpAnyH_take (i := 7) (v := .agg (plC { p with bands := sw p.bands j } (some ⟨g5, 0, none⟩) a7 n5 n7)) rfl (by kernel_rfl) (by kernel_rfl) (by kernel_rfl) (fun _ _ _ h => h) (Or.inl ⟨by rfl, fun w hS => exec_load_rowP 25 (.tmp 6) rfl w3.heap.size rfl 25 (plC { p with bands := sw p.bands j } (some ⟨g5, 0, none⟩) a7 n5 n7) (0, 0) _ hS.2.1 Try.underlying25 rfl (by kernel_rfl)⟩) (by assumption) ?_
    try simp only [Act.put, List.getElem_toArray, List.getElem_cons_succ, List.getElem_cons_zero, List.setIfInBounds_toArray, List.set_cons_zero, List.set_cons_succ]
    refine wpAnyH_take (i := 9) (v := ?_) rfl (by kernel_rfl) (by kernel_rfl) (by kernel_rfl) (fun _ _ _ h => h) (Or.inl ⟨by rfl, ?_⟩) (by assumption) ?_
    rotate_left
    · intro w hSw
      (try dsimp only at hSw)
      go_simp
      all_goals with_reducible rfl
    try simp only [Act.put, List.getElem_toArray, List.getElem_cons_succ, List.getElem_cons_zero, List.setIfInBounds_toArray, List.set_cons_zero, List.set_cons_succ]
    refine wpAnyH_take (i := 10) (v := ?_) rfl (by kernel_rfl) (by kernel_rfl) (by kernel_rfl) (fun _ _ _ h => h) (Or.inl ⟨by rfl, ?_⟩) (by assumption) ?_
    rotate_left
    · intro w hSw
      (try dsimp only at hSw)
      go_simp
      all_goals with_reducible rfl
    try simp only [Act.put, List.getElem_toArray, List.getElem_cons_succ, List.getElem_cons_zero, List.setIfInBounds_toArray, List.set_cons_zero, List.set_cons_succ]
    refine wpAnyH_take (i := 11) (v := ?_) rfl (by kernel_rfl) (by kernel_rfl) (by kernel_rfl) (fun _ _ _ h => h) (Or.inl ⟨by rfl, ?_⟩) (by assumption) ?_
    rotate_left
    · intro w hSw
      (try dsimp only at hSw)
      go_simp
      all_goals with_reducible rfl
    try simp only [Act.put, List.getElem_toArray, List.getElem_cons_succ, List.getElem_cons_zero, List.setIfInBounds_toArray, List.set_cons_zero, List.set_cons_succ]
    refine wpAnyH_take (i := 12) (v := ?_) rfl (by kernel_rfl) (by kernel_rfl) (by kernel_rfl) (fun _ _ _ h => h) (Or.inl ⟨by rfl, ?_⟩) (by assumption) ?_
    rotate_left
    · intro w hSw
      (try dsimp only at hSw)
      go_simp
      all_goals with_reducible rfl
    try simp only [Act.put, List.getElem_toArray, List.getElem_cons_succ, List.getElem_cons_zero, List.setIfInBounds_toArray, List.set_cons_zero, List.set_cons_succ]
    refine wpAnyH_ready (rs := [8]) (by kernel_rfl) (by simp) ?_
    refine AllReadyH.cons rfl (fun K hK => ?_) AllReadyH.nil
    rw [if_pos (by rfl)]
    go_simp
    go_at_call 15
    refine (pol_to HPX.out (RDX.out.on BE.out) (RD7.out.on BE.out)).mono ?_
    rintro r wf ⟨rfl, hf⟩
    have BF := Lib.hid (bel2 BE.out hf)
    clear hf
    refine hK.out _ _ ?_ (fun hHeld => ?_)
    · exact HS14.out _ BF.out
    clear hK K
    try simp only [Act.put, List.getElem_toArray, List.getElem_cons_succ, List.getElem_cons_zero, List.setIfInBounds_toArray, List.set_cons_zero, List.set_cons_succ]
    refine wpAnyH_take (i := 13) (v := ?_) rfl (by kernel_rfl) (by kernel_rfl) (by kernel_rfl) (fun _ _ _ h => h) (Or.inl ⟨by rfl, ?_⟩) (by assumption) ?_
    rotate_left
    · intro w hSw
      (try dsimp only at hSw)
      go_simp
      all_goals with_reducible rfl
    try simp only [Act.put, List.getElem_toArray, List.getElem_cons_succ, List.getElem_cons_zero, List.setIfInBounds_toArray, List.set_cons_zero, List.set_cons_succ]
    refine wpAnyH_take (i := 14) (v := ?_) rfl (by kernel_rfl) (by kernel_rfl) (by kernel_rfl) (fun _ _ _ h => h) (Or.inl ⟨by rfl, ?_⟩) (by assumption) ?_
    rotate_left
    · intro w hSw
      (try dsimp only at hSw)
      go_simp
      all_goals with_reducible rfl
    try simp only [Act.put, List.getElem_toArray, List.getElem_cons_succ, List.getElem_cons_zero, List.setIfInBounds_toArray, List.set_cons_zero, List.set_cons_succ]
    refine wpAnyH_take (i := 15) (v := ?_) rfl (by kernel_rfl) (by kernel_rfl) (by kernel_rfl) (fun _ _ _ h => h) (Or.inl ⟨by rfl, ?_⟩) (by assumption) ?_
    rotate_left
    · intro w hSw
      (try dsimp only at hSw)
      go_simp
      all_goals with_reducible rfl
    try simp only [Act.put, List.getElem_toArray, List.getElem_cons_succ, List.getElem_cons_zero, List.setIfInBounds_toArray, List.set_cons_zero, List.set_cons_succ]
    refine wpAnyH_done (by kernel_rfl) ?_ _
    clear hHeld
    go_wp2
    go_ret
    exact ⟨rfl, bel2 BWE.out BF.out⟩
theorem eventPolicies_walk {w : World} {a1 a2 : Option Addr} {c1 c2 : Nat} (p : Pl) (r1 : PRow w a1 p.bands.length c1 p.bands) (r2 : PRow w a2 p.slots.length c2 p.slots) (at_ : Int) (hat : 0 ≤ at_ ∧ at_ ≤ 255) :
    Calls Try.prog 7 #[plV p a1 a2 c1 c2, .int .u8 at_] w fun r w' => r = .returned (.bool true) ∧ Below w.heap.size w w' := by
  by_cases h2 : p.kind = 2
  · exact eventPolicies_two p r1 r2 at_ hat h2
  by_cases h4 : p.kind = 4
  · exact eventPolicies_four p r1 r2 at_ hat h4
  · exact eventPolicies_plain p r1 r2 at_ hat ⟨h2, h4⟩
end Go.Proofs.Ytjhondlcnpappaa

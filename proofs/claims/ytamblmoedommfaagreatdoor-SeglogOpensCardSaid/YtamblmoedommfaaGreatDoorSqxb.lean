/- What the frame of the claim needs besides. -/
import Derived.Test.YtamblmoedommfaaGreatDoorSqa
import Derived.Test.YtamblmoedommfaaGreatDoorSqb
import Derived.Test.YtamblmoedommfaaGreatDoorSqc
import Derived.Test.YtamblmoedommfaaGreatDoorSqd
import Derived.Test.YtamblmoedommfaaGreatDoorSqe
import Derived.Test.YtamblmoedommfaaGreatDoorSqf
import Derived.Test.YtamblmoedommfaaGreatDoorSqg
import Derived.Test.YtamblmoedommfaaGreatDoorSqh
import Derived.Test.YtamblmoedommfaaGreatDoorSqi
import Derived.Test.YtamblmoedommfaaGreatDoorSqj
import Derived.Test.YtamblmoedommfaaGreatDoorSqk
import Derived.WalkKit
import Derived.Laws.Rows
import Derived.Laws.IdiomCopy
import Derived.Deep.MidRow
import Derived.Below
import Derived.Lib.Hide
import Derived.IntWalk
import Derived.OpenShut
import Derived.Test.YtamblmoedommfaaGreatDoorProg
import Derived.Test.YtamblmoedommfaaGreatDoorChecked
import Derived.Lib.SmallJoins
import Derived.ChangeSlices
import Derived.ProofKit
import Derived.Deep.Slices
import Derived.SizedLaws
import Derived.Test.YtamblmoedommfaaGreatDoorRows
import Derived.LaidMore
import Derived.LaidHandle
import Derived.MakeChecks
import Derived.Lib.LaidTab
import Derived.Stop.LaidErr
namespace Go.Proofs.YtamblmoedommfaaGreatDoor
set_option maxRecDepth 100000
set_option maxHeartbeats 40000000
set_option linter.unusedVariables false
set_option linter.unusedSimpArgs false
set_option linter.unusedSectionVars false
section
open Go.RowKit
theorem Sl.of_row {w : World} {a : Option Addr} {len cap : Nat} {zs : List Int} (h : (a = none ∧ len = 0 ∧ cap = 0 ∧ zs = []) ∨
 ∃ x, a = some x ∧ len ≤ cap ∧ cap ≤ maxLen ∧ zs.length = cap ∧ (∀ i, i < zs.length → w.cell? (x.add i) = some (.int .u8 (zs.getD i 0))) ∧ ∀ n ∈ zs, (Lit.int .u8 n).wf = true) :
 ∃ bs, Sl w w.heap.size a len cap bs := by
 rcases h with ⟨rfl, rfl, rfl, rfl⟩ | ⟨x, rfl, hl, hm, hz, hc, hw⟩
 · exact ⟨[], Sl.nil_⟩
 have hb : ∀ n ∈ zs, 0 ≤ n ∧ n < 256 := fun n hn => by have := bounds_u8 (hw n hn); omega
 refine ⟨(zs.take len).map Int.toNat, by simp [hz, hl], hl, hm, ?_, fun e => by (cases e), fun hp => ?_⟩
 · intro c hcm
   obtain ⟨n, hn, rfl⟩ := List.mem_map.1 hcm
   have := hb n (List.mem_of_mem_take hn)
   omega
 obtain ⟨b, off, spot⟩ := x
 have h0 := hc 0 (by omega)
 have hs : spot = none := by simpa [Addr.add] using World.cell?_spot h0
 subst hs
 refine ⟨b, off, rfl, block_lt_of_cell h0, fun k hk => ?_⟩
 have hk' := hc k (by omega)
 rw [Addr.add_mid] at hk'
 rw [hk', List.getD_eq_getElem?_getD, List.getD_eq_getElem?_getD, List.getElem?_map, List.getElem?_take_of_lt hk, List.getElem?_eq_getElem (by omega)]
 have := hb zs[k] (List.getElem_mem _)
 simp only [Option.getD_some, Option.map_some]
 rw [Int.toNat_of_nonneg this.1]
end
section
open Go.ChangeShapes Go.WideShapes Go.RowKit
section
variable {H : Type} {enc : TypeId × Value → H}
theorem open_bytes {W : World} {fuel : Nat} {v : Value} {x : DataW H × List MemPlace} (h : DataW.trod enc Tryz.prog W 0 (fun _ => true) true fuel 38 [v] = some x) :
 ∃ a cap bs, v = .slice a bs.length cap ∧ Sl W W.heap.size a bs.length cap bs := by
 rcases open_ints Tryz.underlying38 Tryz.underlying5 (by kernel_rfl) h with ⟨hcs, _⟩ | ⟨a, l, c, zs, hcs, _, hl, hm, hz, _, hcell, hwz⟩
 · simp at hcs
   subst hcs
   exact ⟨none, 0, [], rfl, Sl.nil_⟩
 simp at hcs
 subst hcs
 obtain ⟨bs, hs⟩ := Sl.of_row (w := W) (a := some a) (len := l) (cap := c) (zs := zs) (.inr ⟨a, rfl, hl, hm, by simpa using hz, hcell, hwz⟩)
 have := hs.length
 subst this
 exact ⟨some a, c, bs, rfl, hs⟩
end
end
section
open Go.ChangeShapes Go.WideShapes Go.RowKit
instance : Inhabited OpV := ⟨⟨0, ⟨#[]⟩, ⟨#[]⟩, none, 0, [], 0, none, 0, []⟩⟩
structure OpIn (w : World) (B : Nat) (op : OpV) : Prop where
 sl : Sl w B op.ba op.bs.length op.bc op.bs
 row : Row w B op.ka op.ks.length op.kc 1 (intsC op.ks)
 what_ : -9223372036854775808 ≤ op.what ∧ op.what ≤ 9223372036854775807
 n_ : -9223372036854775808 ≤ op.n ∧ op.n ≤ 9223372036854775807
 nm_ : op.nm.size ≤ 140737488351232
 to__ : op.to_.size ≤ 140737488351232
 bs_ : op.bs.length ≤ 140737488351232
structure OpsIn (w : World) (B : Nat) (a : Option Addr) (len cap : Nat) (l : List OpV) : Prop where
 length : l.length = len
 le : len ≤ cap
 max : cap ≤ maxLen
 at_ : 0 < len → ∃ b o, a = some ⟨b, o, none⟩ ∧ b < B ∧ ∀ (k : Nat) (op : OpV), l[k]? = some op →
  (w.cell? ⟨b, o + k * 6, none⟩ = some (.int .i64 op.what) ∧ w.cell? ⟨b, o + k * 6 + 1, none⟩ = some (.string op.nm) ∧ w.cell? ⟨b, o + k * 6 + 2, none⟩ = some (.string op.to_) ∧
   w.cell? ⟨b, o + k * 6 + 3, none⟩ = some (.slice op.ba op.bs.length op.bc) ∧ w.cell? ⟨b, o + k * 6 + 4, none⟩ = some (.int .i64 op.n) ∧ w.cell? ⟨b, o + k * 6 + 5, none⟩ = some (.slice op.ka op.ks.length op.kc)) ∧ OpIn w B op
theorem OpIn.below {w w' : World} {B B' : Nat} {op : OpV} (h : OpIn w B op) (hb : Below B' w w') (hB : B ≤ B') : OpIn w' B' op :=
 ⟨h.sl.below hb hB, h.row.below hb hB, h.what_, h.n_, h.nm_, h.to__, h.bs_⟩
theorem OpsIn.below {w w' : World} {B B' : Nat} {a : Option Addr} {len cap : Nat} {l : List OpV} (h : OpsIn w B a len cap l) (hb : Below B' w w') (hB : B ≤ B') : OpsIn w' B' a len cap l :=
 ⟨h.length, h.le, h.max, fun hp => by
  obtain ⟨b, o, e, hlt, hc⟩ := h.at_ hp
  have hk : ∀ j, w'.cell? ⟨b, j, none⟩ = w.cell? ⟨b, j, none⟩ := fun j => hb.cell (p := ⟨b, j, none⟩) (by show b < B'; omega)
  refine ⟨b, o, e, by omega, fun k op hop => ?_⟩
  obtain ⟨⟨h0, h1, h2, h3, h4, h5⟩, hi⟩ := hc k op hop
  exact ⟨⟨(hk _).trans h0, (hk _).trans h1, (hk _).trans h2, (hk _).trans h3, (hk _).trans h4, (hk _).trans h5⟩, hi.below hb hB⟩⟩
section
variable {H : Type} {enc : TypeId × Value → H}
theorem open_ints0 {W : World} {fuel : Nat} {v : Value} {x : DataW H × List MemPlace} (h : DataW.trod enc Tryz.prog W 0 (fun _ => true) true fuel 39 [v] = some x) :
 ∃ a cap ks, v = .slice a (List.length ks) cap ∧ Row W W.heap.size a (List.length ks) cap 1 (intsC ks) ∧ ∀ k ∈ ks, -9223372036854775808 ≤ k ∧ k ≤ 9223372036854775807 := by
 rcases open_ints Tryz.underlying39 Tryz.underlying3 (by kernel_rfl) h with ⟨hcs, _⟩ | ⟨a, l, c, zs, hcs, _, hl, hm, hz, _, hcell, hwz⟩
 · simp at hcs
   subst hcs
   exact ⟨none, 0, [], rfl, ⟨Nat.le_refl _, by simp [maxLen], fun h => absurd h (by simp)⟩, by simp⟩
 simp at hcs
 subst hcs
 simp at hz
 have hln : (zs.take l).length = l := by rw [List.length_take]; omega
 refine ⟨some a, c, zs.take l, by rw [hln], ⟨by omega, hm, fun hp => ?_⟩, fun k hk => by have := bounds_i64 (hwz k (List.mem_of_mem_take hk)); omega⟩
 rw [hln] at hp ⊢
 obtain ⟨b, off, spot⟩ := a
 have h0 := hcell 0 (by omega)
 have hs : spot = none := by simpa [Addr.add] using World.cell?_spot h0
 subst hs
 refine ⟨b, off, rfl, block_lt_of_cell h0, fun j hj => ?_⟩
 have := hcell j (by omega)
 rw [Addr.add_mid] at this
 rw [this]
 simp only [intsC]
 rw [List.getD_eq_getElem?_getD, List.getD_eq_getElem?_getD, List.getElem?_take_of_lt (by omega)]
theorem reach_val : reachBytes = 140737488351232 := by decide
theorem open_op {W : World} {n : Nat} {cs : List Value} {x : DataW H × List MemPlace} (h : DataW.trod enc Tryz.prog W 0 (fun _ => true) true n 57 cs = some x) (hz : ∀ m ∈ x.1.weights Tryz.prog 57, m ≤ reachBytes) :
 ∃ op : OpV, cs = [.int .i64 op.what, .string op.nm, .string op.to_, .slice op.ba op.bs.length op.bc, .int .i64 op.n, .slice op.ka op.ks.length op.kc] ∧ OpIn W W.heap.size op := by
 obtain ⟨xs, n', _, hx, hcl, hxl, hf⟩ := DataW.trod_struct Tryz.underlying57 h
 have hcl : cs.length = 6 := hcl.trans (by kernel_rfl)
 have hxl : xs.length = 6 := hxl
 match cs, hcl, xs, hxl with
 | [c0, c1, c2, c3, c4, c5], _, [y0, y1, y2, y3, y4, y5], _ =>
  have g0 : DataW.trod enc Tryz.prog W 0 (fun _ => true) true n' 3 [c0] = some y0 := hf 0 _ rfl
  have g1 : DataW.trod enc Tryz.prog W 0 (fun _ => true) true n' 9 [c1] = some y1 := hf 1 _ rfl
  have g2 : DataW.trod enc Tryz.prog W 0 (fun _ => true) true n' 9 [c2] = some y2 := hf 2 _ rfl
  have g3 : DataW.trod enc Tryz.prog W 0 (fun _ => true) true n' 38 [c3] = some y3 := hf 3 _ rfl
  have g4 : DataW.trod enc Tryz.prog W 0 (fun _ => true) true n' 3 [c4] = some y4 := hf 4 _ rfl
  have g5 : DataW.trod enc Tryz.prog W 0 (fun _ => true) true n' 39 [c5] = some y5 := hf 5 _ rfl
  obtain ⟨e0, q0, _, w0⟩ := DataW.trod_int Tryz.underlying3 g0
  obtain ⟨s1, q1, v1, w1⟩ := DataW.trod_string Tryz.underlying9 g1
  obtain ⟨s2, q2, v2, w2⟩ := DataW.trod_string Tryz.underlying9 g2
  obtain ⟨ba, bc, bs, q3, hs⟩ := open_bytes g3
  obtain ⟨e4, q4, _, w4⟩ := DataW.trod_int Tryz.underlying3 g4
  obtain ⟨ka, kc, ks, q5, hk, _⟩ := open_ints0 g5
  simp at q0 q1 q2 q4
  subst q0 q1 q2 q3 q4 q5
  have hw : ∀ (j : Nat) (t : TypeId) (d : DataW H), ([3, 9, 9, 38, 3, 39] : List TypeId)[j]? = some t → [y0.1, y1.1, y2.1, y3.1, y4.1, y5.1][j]? = some d → ∀ m ∈ d.weights Tryz.prog t, m ≤ reachBytes := fun j t d ht hd m hm => by
   refine hz m ?_
   rw [hx]
   show m ∈ DataW.weights Tryz.prog 57 (.agg [y0.1, y1.1, y2.1, y3.1, y4.1, y5.1])
   unfold DataW.weights
   rw [Tryz.underlying57]
   exact DataW.weights_mem_each ht hd m hm
  have z1 := hw 1 _ _ rfl rfl s1.data.toList.length (by rw [v1]; simp [DataW.weights])
  have z2 := hw 2 _ _ rfl rfl s2.data.toList.length (by rw [v2]; simp [DataW.weights])
  have z3 : bs.length ≤ reachBytes := by
   rcases open_ints Tryz.underlying38 Tryz.underlying5 (by kernel_rfl) g3 with ⟨hcs, _⟩ | ⟨a, l, c, zs, hcs, _, hl, hm, hzl, hx3, _⟩
   · simp at hcs
     rw [hcs.2.1]; simp
   simp at hcs hzl
   have := hw 3 _ _ rfl rfl (((lits .u8 (zs.take l)).length + (lits .u8 (zs.drop l)).length) * Tryz.prog.bytesOf 5) (by
    rw [hx3]
    unfold DataW.weights
    rw [Tryz.underlying38]
    exact List.mem_cons_self)
   rw [show Tryz.prog.bytesOf 5 = 1 from by kernel_rfl] at this
   simp [lits] at this
   omega
  have b0 := bounds_i64 w0
  have b4 := bounds_i64 w4
  rw [reach_val] at z1 z2 z3
  exact ⟨⟨e0, s1, s2, ba, bc, bs, e4, ka, kc, ks⟩, rfl, ⟨hs, hk, by simpa using b0, by simpa using b4, by simpa using z1, by simpa using z2, z3⟩⟩
theorem open_ops {W : World} {r : Reach} {b0 : Nat} {v : Value} {d : DataW H} {p : List MemPlace} (hv : Value.okWide Tryz.prog W r b0 53 v) (h : DataW.Trod enc Tryz.prog W 0 (fun _ => true) true 53 v d p)
 (hz : ∀ m ∈ d.weights Tryz.prog 53, m ≤ reachBytes) :
 ∃ a cap l, v = .slice a (List.length l) cap ∧ OpsIn W W.heap.size a (List.length l) cap l ∧ List.length l ≤ 140737488351232 := by
 obtain ⟨a, l, c, rfl⟩ := okWide_slice Tryz.underlying53 hv
 obtain ⟨fuel, hf⟩ := h
 have hf' : DataW.trod enc Tryz.prog W 0 (fun _ => true) true fuel 53 [.slice a l c] = some (d, p) := by simpa [Value.cells] using hf
 rcases Deep.open_slice Tryz.underlying53 hf' with ⟨hcs, _⟩ | ⟨x, len, cap, m, n, D, Pl, hcs, _, hl, hm, hmm, hx, hV⟩
 · simp at hcs
   obtain ⟨rfl, rfl, rfl⟩ := hcs
   exact ⟨none, 0, [], rfl, ⟨rfl, by simp, by simp [maxLen], fun h => absurd h (by simp)⟩, by simp⟩
 simp at hcs
 obtain ⟨rfl, rfl, rfl⟩ := hcs
 simp at hmm
 have hc6 : Tryz.prog.cellsOf 57 = 6 := by kernel_rfl
 simp only [Prod.mk.injEq] at hx
 have hlz : l ≤ 140737488351232 := by
  have := hz ((((List.range l).map D).length + ((List.range (m - l)).map fun j => D (l + j)).length) * Tryz.prog.bytesOf 57) (by
   rw [hx.1]
   unfold DataW.weights
   rw [Tryz.underlying53]
   exact List.mem_cons_self)
  rw [show Tryz.prog.bytesOf 57 = 96 from by kernel_rfl, reach_val] at this
  simp at this
  omega
 have hD : ∀ i, i < l → ∀ q ∈ (D i).weights Tryz.prog 57, q ≤ reachBytes := fun i hi q hq => by
  refine hz q ?_
  rw [hx.1]
  unfold DataW.weights
  rw [Tryz.underlying53]
  refine List.mem_cons_of_mem _ (List.mem_append_left _ ?_)
  have : ∀ (L : List Nat), i ∈ L → q ∈ DataW.weightsAll Tryz.prog 57 (L.map D) := by
   intro L
   induction L with
   | nil => intro h; cases h
   | cons y L ih =>
    intro h
    rcases List.mem_cons.1 h with rfl | h
    · exact List.mem_append_left _ hq
    exact List.mem_append_right _ (ih h)
  exact this _ (List.mem_range.2 hi)
 obtain ⟨F, hF⟩ := Deep.choose_lt (α := OpV) (n := l) (p := fun i op => (∀ j, j < 6 → W.cell? ((x.add (i * 6)).add j) = [Value.int .i64 op.what, .string op.nm, .string op.to_, .slice op.ba op.bs.length op.bc, .int .i64 op.n, .slice op.ka op.ks.length op.kc][j]?) ∧ OpIn W W.heap.size op) (fun i hi => by
  obtain ⟨cs', hc, ht⟩ := hV i (by omega)
  rw [hc6] at hc
  obtain ⟨_, _, hat⟩ := World.cells?_some hc
  obtain ⟨op, e, ho⟩ := open_op ht (hD i hi)
  subst e
  exact ⟨op, hat, ho⟩)
 refine ⟨some x, c, (List.range l).map F, by simp, ⟨by simp, by simpa using hl, hm, fun hp => ?_⟩, by simpa using hlz⟩
 simp at hp
 obtain ⟨b, off, spot⟩ := x
 have h0 := (hF 0 hp).1 0 (by omega)
 have hs : spot = none := by
  have h0' : W.cell? (Addr.add (Addr.add ⟨b, off, spot⟩ (0 * 6)) 0) = some (.int .i64 (F 0).what) := h0
  simpa [Addr.add] using World.cell?_spot h0'
 subst hs
 have hlt : b < W.heap.size := by
  have h0' : W.cell? (Addr.add (Addr.add ⟨b, off, none⟩ (0 * 6)) 0) = some (.int .i64 (F 0).what) := h0
  simpa [Addr.add] using block_lt_of_cell h0'
 refine ⟨b, off, rfl, hlt, fun k op hop => ?_⟩
 rw [List.getElem?_map] at hop
 obtain ⟨i, hi, rfl⟩ := Option.map_eq_some_iff.1 hop
 have hkl : k < l := by have := (List.getElem?_eq_some_iff.1 hi).1; simpa using this
 rw [List.getElem?_range hkl] at hi
 injection hi with hi
 subst hi
 obtain ⟨hcell, ho⟩ := hF k hkl
 have hc : ∀ j, j < 6 → W.cell? ⟨b, off + k * 6 + j, none⟩ = [Value.int .i64 (F k).what, .string (F k).nm, .string (F k).to_, .slice (F k).ba (F k).bs.length (F k).bc, .int .i64 (F k).n, .slice (F k).ka (F k).ks.length (F k).kc][j]? := fun j hj => by
  have := hcell j hj
  rw [Addr.add_mid, Addr.add_mid] at this
  exact this
 exact ⟨⟨hc 0 (by omega), hc 1 (by omega), hc 2 (by omega), hc 3 (by omega), hc 4 (by omega), hc 5 (by omega)⟩, ho⟩
end
end
section
open Go.RowKit Go.Sort
open Go.Maps
attribute [local go_sem] Oper.semAt_some
def St.do_ (t : St) (op : OpV) : Int × St :=
 if op.what = 3 ∨ op.what = 4 then t.sync op.nm.data.toList
 else if op.what = 5 then t.rename op.nm.data.toList op.to_.data.toList
 else if op.what = 6 then t.delete op.nm.data.toList
 else if op.what = 7 then (0, t.fuse_ op.n)
 else if op.what = 8 then (0, t.fail_ op.n)
 else if op.what = 9 then (0, t.crash op.ks)
 else t.write op.nm.data.toList op.bs
abbrev opVal (op : OpV) : Value := .agg #[.int .i64 op.what, .string op.nm, .string op.to_, .slice op.ba op.bs.length op.bc, .int .i64 op.n, .slice op.ka op.ks.length op.kc]
theorem cell_box6 (w : World) (v0 v1 v2 v3 v4 v5 : Value) (t : TypeId) :
 (w.alloc (.cells #[v0, v1, v2, v3, v4, v5] t)).cell? ⟨w.heap.size, 0, none⟩ = some v0 ∧ (w.alloc (.cells #[v0, v1, v2, v3, v4, v5] t)).cell? ⟨w.heap.size, 1, none⟩ = some v1 ∧ (w.alloc (.cells #[v0, v1, v2, v3, v4, v5] t)).cell? ⟨w.heap.size, 2, none⟩ = some v2 ∧
 (w.alloc (.cells #[v0, v1, v2, v3, v4, v5] t)).cell? ⟨w.heap.size, 3, none⟩ = some v3 ∧ (w.alloc (.cells #[v0, v1, v2, v3, v4, v5] t)).cell? ⟨w.heap.size, 4, none⟩ = some v4 ∧ (w.alloc (.cells #[v0, v1, v2, v3, v4, v5] t)).cell? ⟨w.heap.size, 5, none⟩ = some v5 :=
 ⟨(cell_of_row _ _ 0 _ _ _ (heap_alloc_new w _)).trans rfl, (cell_of_row _ _ 1 _ _ _ (heap_alloc_new w _)).trans rfl, (cell_of_row _ _ 2 _ _ _ (heap_alloc_new w _)).trans rfl, (cell_of_row _ _ 3 _ _ _ (heap_alloc_new w _)).trans rfl, (cell_of_row _ _ 4 _ _ _ (heap_alloc_new w _)).trans rfl, (cell_of_row _ _ 5 _ _ _ (heap_alloc_new w _)).trans rfl⟩
theorem Mv.before {w0 w w1 w' : World} {dp : Nat} {O : Nat → Prop} {t : St} (hb : Below w.heap.size w w1) (h : Mv w0 w1 dp O t w') : Mv w0 w dp O t w' := by
 obtain ⟨O', h1, h2, h3⟩ := h
 exact ⟨O', h1, (But.of_below (O := O) hb).trans h2 (fun _ hi => .inl hi), fun k hk => (h3 k hk).imp id (Nat.le_trans hb.size)⟩
def Done (w0 w : World) (dp : Nat) (O : Nat → Prop) (r : Int × St) (e : Ending) (w' : World) : Prop := e = .returned (.int .i64 r.1) ∧ Mv w0 w dp O r.2 w'
section
variable {w0 w : World} {dp : Nat} {t : St} {O : Nat → Prop}
theorem do_any (h : DK w0 w dp t O) (op : OpV) {B : Nat} (ho : OpIn w B op) (hB : B ≤ w0.heap.size) : Calls Tryz.prog 23 #[.pointer (some ⟨dp, 0, none⟩), opVal op] w (Done w0 w dp O (t.do_ op)) := by
 have hb1 : Below w.heap.size w (w.alloc (.cells #[.int .i64 op.what, .string op.nm, .string op.to_, .slice op.ba op.bs.length op.bc, .int .i64 op.n, .slice op.ka op.ks.length op.kc] 57)) := Qb.alloc Qn _
 obtain ⟨x0, x1, x2, x3, x4, x5⟩ := cell_box6 w (.int .i64 op.what) (.string op.nm) (.string op.to_) (.slice op.ba op.bs.length op.bc) (.int .i64 op.n) (.slice op.ka op.ks.length op.kc) 57
 have hwB : B ≤ w.heap.size := Nat.le_trans hB h.below.size
 have ho1 := ho.below hb1 hwB
 have k1 := h.on hb1
 have hfar : ∀ {a : Option Addr} {n c : Nat} {bs : List Nat}, Sl w B a n c bs → 0 < n → ∀ k o, a = some ⟨k, o, none⟩ → ¬ O k := fun hs hp k o e hO => by
  obtain ⟨b', o', e', hlt, _⟩ := hs.at_ hp
  rw [e] at e'
  injection e' with e'
  injection e' with e1 e2
  have := h.base k hO
  omega
 have hfar2 : ∀ {a : Option Addr} {n c m : Nat} {cs : Nat → Value}, Row w B a n c m cs → 0 < n → ∀ k o, a = some ⟨k, o, none⟩ → ¬ O k := fun hs hp k o e hO => by
  obtain ⟨b', o', e', hlt, _⟩ := hs.at_ hp
  rw [e] at e'
  injection e' with e'
  injection e' with e1 e2
  have := h.base k hO
  omega
 have CS := Qh (k1.sync op.nm (by have := ho.nm_; omega))
 have CR := Qh (k1.rename op.nm op.to_ (by have := ho.nm_; omega) (by have := ho.to__; omega))
 have CD := Qh (k1.delete op.nm (by have := ho.nm_; omega))
 have CF := Qh (k1.fuse op.n ho.n_.2)
 have CL := Qh (k1.fail op.n ho.n_.2)
 have CC := Qh (k1.crash op.ks op.ka op.ks.length op.kc ((ho.row.below hb1 hwB).more (by simp <;> omega)) rfl (hfar2 ho.row))
 have CW := Qh (k1.write op.nm (by have := ho.nm_; omega) op.ba op.bs.length op.bc op.bs ((ho.sl.below hb1 hwB).more (by simp <;> omega)) ho.bs_ (hfar ho.sl))
 have HB := Qh hb1
 have HD : Hid (t.do_ op = if op.what = 3 ∨ op.what = 4 then t.sync op.nm.data.toList else if op.what = 5 then t.rename op.nm.data.toList op.to_.data.toList else if op.what = 6 then t.delete op.nm.data.toList else if op.what = 7 then (0, t.fuse_ op.n) else if op.what = 8 then (0, t.fail_ op.n) else if op.what = 9 then (0, t.crash op.ks) else t.write op.nm.data.toList op.bs) := rfl
 clear hb1 ho1 k1 hfar hfar2 ho h
 generalize t.do_ op = r at *
 show Calls Tryz.prog 23 #[.pointer (some ⟨dp, 0, none⟩), .agg #[.int .i64 op.what, .string op.nm, .string op.to_, .slice op.ba op.bs.length op.bc, .int .i64 op.n, .slice op.ka op.ks.length op.kc]] w _
 generalize op.what = what at *
 by_cases h3 : what = 3
 · have hr : r = t.sync op.nm.data.toList := HD.out.trans (by rw [if_pos (by omega)])
   subst hr h3
   clear HD
   go_enter Tryz.func23, Tryz.ntmps23
   go_wp2_with fail
   refine CS.out.mono ?_
   rintro e w' ⟨rfl, hmv⟩
   have HM := Qh (hmv.before HB.out)
   clear hmv
   go_wp2
   go_ret
   exact ⟨rfl, HM.out⟩
 by_cases h4 : what = 4
 · have hr : r = t.sync op.nm.data.toList := HD.out.trans (by rw [if_pos (by omega)])
   subst hr h4
   clear HD
   go_enter Tryz.func23, Tryz.ntmps23
   go_wp2_with fail
   refine CS.out.mono ?_
   rintro e w' ⟨rfl, hmv⟩
   have HM := Qh (hmv.before HB.out)
   clear hmv
   go_wp2
   go_ret
   exact ⟨rfl, HM.out⟩
 by_cases h5 : what = 5
 · have hr : r = t.rename op.nm.data.toList op.to_.data.toList := HD.out.trans (by rw [if_neg (by omega), if_pos (by omega)])
   subst hr h5
   clear HD
   go_enter Tryz.func23, Tryz.ntmps23
   go_wp2_with fail
   refine CR.out.mono ?_
   rintro e w' ⟨rfl, hmv⟩
   have HM := Qh (hmv.before HB.out)
   clear hmv
   go_wp2
   go_ret
   exact ⟨rfl, HM.out⟩
 by_cases h6 : what = 6
 · have hr : r = t.delete op.nm.data.toList := HD.out.trans (by rw [if_neg (by omega), if_neg (by omega), if_pos (by omega)])
   subst hr h6
   clear HD
   go_enter Tryz.func23, Tryz.ntmps23
   go_wp2_with fail
   refine CD.out.mono ?_
   rintro e w' ⟨rfl, hmv⟩
   have HM := Qh (hmv.before HB.out)
   clear hmv
   go_wp2
   go_ret
   exact ⟨rfl, HM.out⟩
 by_cases h7 : what = 7
 · have hr : r = (0, t.fuse_ op.n) := HD.out.trans (by rw [if_neg (by omega), if_neg (by omega), if_neg (by omega), if_pos (by omega)])
   subst hr h7
   clear HD
   go_enter Tryz.func23, Tryz.ntmps23
   go_wp2_with fail
   refine CF.out.mono ?_
   rintro e w' ⟨rfl, hmv⟩
   have HM := Qh (hmv.before HB.out)
   clear hmv
   go_wp2
   go_ret
   exact ⟨rfl, HM.out⟩
 by_cases h8 : what = 8
 · have hr : r = (0, t.fail_ op.n) := HD.out.trans (by rw [if_neg (by omega), if_neg (by omega), if_neg (by omega), if_neg (by omega), if_pos (by omega)])
   subst hr h8
   clear HD
   go_enter Tryz.func23, Tryz.ntmps23
   go_wp2_with fail
   refine CL.out.mono ?_
   rintro e w' ⟨rfl, hmv⟩
   have HM := Qh (hmv.before HB.out)
   clear hmv
   go_wp2
   go_ret
   exact ⟨rfl, HM.out⟩
 by_cases h9 : what = 9
 · have hr : r = (0, t.crash op.ks) := HD.out.trans (by rw [if_neg (by omega), if_neg (by omega), if_neg (by omega), if_neg (by omega), if_neg (by omega), if_pos (by omega)])
   subst hr h9
   clear HD
   go_enter Tryz.func23, Tryz.ntmps23
   go_wp2_with fail
   refine CC.out.mono ?_
   rintro e w' ⟨rfl, hmv⟩
   have HM := Qh (hmv.before HB.out)
   clear hmv
   go_wp2
   go_ret
   exact ⟨rfl, HM.out⟩
 have hr : r = t.write op.nm.data.toList op.bs := HD.out.trans (by rw [if_neg (by omega), if_neg (by omega), if_neg (by omega), if_neg (by omega), if_neg (by omega), if_neg (by omega)])
 subst hr
 clear HD
 go_enter Tryz.func23, Tryz.ntmps23
 go_wp2_with fail
 refine CW.out.mono ?_
 rintro e w' ⟨rfl, hmv⟩
 have HM := Qh (hmv.before HB.out)
 clear hmv
 go_wp2
 go_ret
 exact ⟨rfl, HM.out⟩
end
def Few (w : World) (len : Nat) (e : Ending) (w' : World) : Prop := ∃ g : Bool, e = .returned (.bool g) ∧ (g = false → len ≤ 300) ∧ Below w.heap.size w w'
theorem great_any (a : Option Addr) (len cap : Nat) (l : List OpV) (w : World) (ho : OpsIn w w.heap.size a len cap l) (hlz : len ≤ 140737488351232) : Calls Tryz.prog 22 #[.slice a len cap] w (Few w len) := by
 have hle := ho.le
 have hln := ho.length
 have HO := Qh ho
 clear ho
 go_enter Tryz.func22, Tryz.ntmps22
 go_wp2_with fail
 go_loopw [3, 4] (fun n i wr => ∃ k N : Nat, k ≤ len ∧ i = .int .i64 (k : Int) ∧ n = .int .i64 (N : Int) ∧ (N ≤ 56000 ∨ N = len) ∧ Below w.heap.size w wr) (fun _ i _ => len - (intOf i).toNat)
 case atStart => exact ⟨0, len, Nat.zero_le _, rfl, rfl, .inr rfl, Below.refl _ _⟩
 case round =>
  obtain ⟨k, N, hk, rfl, rfl, hN, hnx⟩ := hrel
  by_cases hc : k < len ∧ N < 20000
  · obtain ⟨hlt, hN2⟩ := hc
    have d1 : decide ((k : Int) < (len : Int)) = true := by simp; omega
    have d2 : decide ((N : Int) < 20000) = true := by simp; omega
    obtain ⟨b, o, rfl, hb, hcell⟩ := HO.out.at_ (by omega)
    obtain ⟨op, hop⟩ : ∃ op, l[k]? = some op := ⟨_, List.getElem?_eq_getElem (by omega)⟩
    obtain ⟨⟨_, c1, c2, c3, _, c5⟩, hi⟩ := hcell k op hop
    have e1 := (hnx.cell (p := ⟨b, o + k * 6 + 1, none⟩) hb).trans c1
    have e2 := (hnx.cell (p := ⟨b, o + k * 6 + 2, none⟩) hb).trans c2
    have e3 := (hnx.cell (p := ⟨b, o + k * 6 + 3, none⟩) hb).trans c3
    have e5 := (hnx.cell (p := ⟨b, o + k * 6 + 5, none⟩) hb).trans c5
    have m1 := fun (x : World) => min2i_any (op.nm.size : Int) 9000 x
    have m2 := fun (x : World) => min2i_any (op.to_.size : Int) 9000 x
    have m3 := fun (x : World) => min2i_any (op.bs.length : Int) 9000 x
    have m5 := fun (x : World) => min2i_any (op.ks.length : Int) 9000 x
    obtain ⟨z1, hz1⟩ : ∃ z, z = min op.nm.size 9000 := ⟨_, rfl⟩
    obtain ⟨z2, hz2⟩ : ∃ z, z = min op.to_.size 9000 := ⟨_, rfl⟩
    obtain ⟨z3, hz3⟩ : ∃ z, z = min op.bs.length 9000 := ⟨_, rfl⟩
    obtain ⟨z5, hz5⟩ : ∃ z, z = min op.ks.length 9000 := ⟨_, rfl⟩
    rw [show min (op.nm.size : Int) 9000 = (z1 : Int) from by omega] at m1
    rw [show min (op.to_.size : Int) 9000 = (z2 : Int) from by omega] at m2
    rw [show min (op.bs.length : Int) 9000 = (z3 : Int) from by omega] at m3
    rw [show min (op.ks.length : Int) 9000 = (z5 : Int) from by omega] at m5
    have b1 : z1 ≤ 9000 := by omega
    have b2 : z2 ≤ 9000 := by omega
    have b3 : z3 ≤ 9000 := by omega
    have b5 : z5 ≤ 9000 := by omega
    have w1 : IntKind.i64.wrap ((N : Int) + (z1 : Int)) = ((N + z1 : Nat) : Int) := by rw [IntKind.wrap_i64]; omega
    have w2 : IntKind.i64.wrap (((N + z1 : Nat) : Int) + (z2 : Int)) = ((N + z1 + z2 : Nat) : Int) := by rw [IntKind.wrap_i64]; omega
    have w3 : IntKind.i64.wrap (((N + z1 + z2 : Nat) : Int) + (z3 : Int)) = ((N + z1 + z2 + z3 : Nat) : Int) := by rw [IntKind.wrap_i64]; omega
    have w5 : IntKind.i64.wrap (((N + z1 + z2 + z3 : Nat) : Int) + (z5 : Int)) = ((N + z1 + z2 + z3 + z5 : Nat) : Int) := by rw [IntKind.wrap_i64]; omega
    have HX := Qh (Qa hnx (show N + z1 + z2 + z3 + z5 ≤ 56000 by omega))
    clear hz1 hz2 hz3 hz5 hnx hcell c1 c2 c3 c5 hop hi hN
    generalize N + z1 + z2 + z3 + z5 = N5 at *
    generalize N + z1 + z2 + z3 = N3 at *
    generalize N + z1 + z2 = N2 at *
    generalize N + z1 = N1 at *
    go_wp2_with fail
    refine wp_region_held_drew (S := fun x => x.cell? ⟨b, o + k * 6 + 1, none⟩ = some (.string op.nm) ∧ x.cell? ⟨b, o + k * 6 + 2, none⟩ = some (.string op.to_) ∧ x.cell? ⟨b, o + k * 6 + 3, none⟩ = some (.slice op.ba op.bs.length op.bc) ∧ x.cell? ⟨b, o + k * 6 + 5, none⟩ = some (.slice op.ka op.ks.length op.kc)) (by kernel_rfl) ⟨e1, e2, e3, e5⟩ (fun hHeld => ?_)
    refine qi 0 (by assumption) ?_
    iterate 34 (refine qk rfl (by kernel_rfl) (fun _ _ _ h => h) (by intro w hSw; (try dsimp only at hSw); go_simp; all_goals with_reducible rfl) (by (try simp only [Act.put, lz]); rfl) ?_)
    refine qo ?_
    refine wpAnyH_done (by kernel_rfl) ?_ _
    clear hHeld
    go_wp2
    go_roundw
    case rel => exact ⟨k + 1, N5, by omega, by go_num, rfl, .inl HX.out.2, Below.drew HX.out.1⟩
    case measure => simp [intOf]; omega
  have HX := Qh hnx
  clear hnx hN
  by_cases hkl : k < len
  · have hN2 : ¬ N < 20000 := fun h => hc ⟨hkl, h⟩
    clear hc
    have d1 : decide ((k : Int) < (len : Int)) = true := by simp; omega
    have d2 : decide ((N : Int) < 20000) = false := by simp; omega
    go_wp2
    all_goals
     go_ret
     exact ⟨_, rfl, fun h => (by first | (simp at h; done) | (simp at h; omega)), HX.out⟩
  clear hc
  have d1 : decide ((k : Int) < (len : Int)) = false := by simp; omega
  go_wp2
  all_goals
   go_ret
   exact ⟨_, rfl, fun h => (by first | (simp at h; done) | (simp at h; omega)), HX.out⟩
end
section
open Go.RowKit Go.Sort
open Go.Maps
attribute [local go_sem] Oper.semAt_some
theorem Mr.before {w0 w w1 w' : World} {dp : Nat} {O : Nat → Prop} {t : St} (hb : Below w.heap.size w w1) (h : Mr w0 w1 dp O t w') : Mr w0 w dp O t w' := by
 obtain ⟨O', h1, h2, h3⟩ := h
 exact ⟨O', h1, (But.of_below (O := O) hb).trans h2 (fun _ hi => .inl hi), fun k hk => (h3 k hk).imp id (Nat.le_trans hb.size)⟩
def PDone (w0 w : World) (dp : Nat) (O : Nat → Prop) (r : Int × St) (e : Ending) (w' : World) : Prop := e = .returned (.int .i64 r.1) ∧ Mr w0 w dp O r.2 w'
section
variable {w0 w : World} {dp : Nat} {t : St} {O : Nat → Prop}
theorem plain_any (h : RK w0 w dp t O) (op : OpV) {B : Nat} (ho : OpIn w B op) (hB : B ≤ w0.heap.size) : Calls Tryz.prog 24 #[.pointer (some ⟨dp, 0, none⟩), opVal op] w (PDone w0 w dp O (t.do_ op)) := by
 have hb1 : Below w.heap.size w (w.alloc (.cells #[.int .i64 op.what, .string op.nm, .string op.to_, .slice op.ba op.bs.length op.bc, .int .i64 op.n, .slice op.ka op.ks.length op.kc] 57)) := Qb.alloc Qn _
 obtain ⟨x0, x1, x2, x3, x4, x5⟩ := cell_box6 w (.int .i64 op.what) (.string op.nm) (.string op.to_) (.slice op.ba op.bs.length op.bc) (.int .i64 op.n) (.slice op.ka op.ks.length op.kc) 57
 have hwB : B ≤ w.heap.size := Nat.le_trans hB h.below.size
 have ho1 := ho.below hb1 hwB
 have k1 := h.on hb1
 have hfar : ∀ {a : Option Addr} {n c : Nat} {bs : List Nat}, Sl w B a n c bs → 0 < n → ∀ k o, a = some ⟨k, o, none⟩ → ¬ O k := fun hs hp k o e hO => by
  obtain ⟨b', o', e', hlt, _⟩ := hs.at_ hp
  rw [e] at e'
  injection e' with e'
  injection e' with e1 e2
  have := h.base k hO
  omega
 have hfar2 : ∀ {a : Option Addr} {n c m : Nat} {cs : Nat → Value}, Row w B a n c m cs → 0 < n → ∀ k o, a = some ⟨k, o, none⟩ → ¬ O k := fun hs hp k o e hO => by
  obtain ⟨b', o', e', hlt, _⟩ := hs.at_ hp
  rw [e] at e'
  injection e' with e'
  injection e' with e1 e2
  have := h.base k hO
  omega
 have CS := Qh (k1.sync op.nm)
 have CR := Qh (k1.rename op.nm op.to_ (by have := ho.to__; unfold maxLen; omega))
 have CD := Qh (k1.delete op.nm)
 have CF := Qh (k1.fuse op.n ho.n_.2)
 have CL := Qh (k1.fail op.n ho.n_.2)
 have CC := Qh (k1.crash op.ks op.ka op.ks.length op.kc ((ho.row.below hb1 hwB).more (by simp <;> omega)) rfl (hfar2 ho.row))
 have CW := Qh (k1.write op.nm (by have := ho.nm_; unfold maxLen; omega) op.ba op.bs.length op.bc op.bs ((ho.sl.below hb1 hwB).more (by simp <;> omega)) ho.bs_ (hfar ho.sl))
 have HB := Qh hb1
 have HD : Hid (t.do_ op = if op.what = 3 ∨ op.what = 4 then t.sync op.nm.data.toList else if op.what = 5 then t.rename op.nm.data.toList op.to_.data.toList else if op.what = 6 then t.delete op.nm.data.toList else if op.what = 7 then (0, t.fuse_ op.n) else if op.what = 8 then (0, t.fail_ op.n) else if op.what = 9 then (0, t.crash op.ks) else t.write op.nm.data.toList op.bs) := rfl
 clear hb1 ho1 k1 hfar hfar2 ho h
 generalize t.do_ op = r at *
 show Calls Tryz.prog 24 #[.pointer (some ⟨dp, 0, none⟩), .agg #[.int .i64 op.what, .string op.nm, .string op.to_, .slice op.ba op.bs.length op.bc, .int .i64 op.n, .slice op.ka op.ks.length op.kc]] w _
 generalize op.what = what at *
 by_cases h3 : what = 3
 · have hr : r = t.sync op.nm.data.toList := HD.out.trans (by rw [if_pos (by omega)])
   subst hr h3
   clear HD
   go_enter Tryz.func24, Tryz.ntmps24
   go_wp2_with fail
   refine CS.out.mono ?_
   rintro e w' ⟨rfl, hmv⟩
   have HM := Qh (Mr.before HB.out hmv)
   clear hmv
   go_wp2
   go_ret
   exact ⟨rfl, HM.out⟩
 by_cases h4 : what = 4
 · have hr : r = t.sync op.nm.data.toList := HD.out.trans (by rw [if_pos (by omega)])
   subst hr h4
   clear HD
   go_enter Tryz.func24, Tryz.ntmps24
   go_wp2_with fail
   refine CS.out.mono ?_
   rintro e w' ⟨rfl, hmv⟩
   have HM := Qh (Mr.before HB.out hmv)
   clear hmv
   go_wp2
   go_ret
   exact ⟨rfl, HM.out⟩
 by_cases h5 : what = 5
 · have hr : r = t.rename op.nm.data.toList op.to_.data.toList := HD.out.trans (by rw [if_neg (by omega), if_pos (by omega)])
   subst hr h5
   clear HD
   go_enter Tryz.func24, Tryz.ntmps24
   go_wp2_with fail
   refine CR.out.mono ?_
   rintro e w' ⟨rfl, hmv⟩
   have HM := Qh (Mr.before HB.out hmv)
   clear hmv
   go_wp2
   go_ret
   exact ⟨rfl, HM.out⟩
 by_cases h6 : what = 6
 · have hr : r = t.delete op.nm.data.toList := HD.out.trans (by rw [if_neg (by omega), if_neg (by omega), if_pos (by omega)])
   subst hr h6
   clear HD
   go_enter Tryz.func24, Tryz.ntmps24
   go_wp2_with fail
   refine CD.out.mono ?_
   rintro e w' ⟨rfl, hmv⟩
   have HM := Qh (Mr.before HB.out hmv)
   clear hmv
   go_wp2
   go_ret
   exact ⟨rfl, HM.out⟩
 by_cases h7 : what = 7
 · have hr : r = (0, t.fuse_ op.n) := HD.out.trans (by rw [if_neg (by omega), if_neg (by omega), if_neg (by omega), if_pos (by omega)])
   subst hr h7
   clear HD
   go_enter Tryz.func24, Tryz.ntmps24
   go_wp2_with fail
   refine CF.out.mono ?_
   rintro e w' ⟨rfl, hmv⟩
   have HM := Qh (Mr.before HB.out hmv)
   clear hmv
   go_wp2
   go_ret
   exact ⟨rfl, HM.out⟩
 by_cases h8 : what = 8
 · have hr : r = (0, t.fail_ op.n) := HD.out.trans (by rw [if_neg (by omega), if_neg (by omega), if_neg (by omega), if_neg (by omega), if_pos (by omega)])
   subst hr h8
   clear HD
   go_enter Tryz.func24, Tryz.ntmps24
   go_wp2_with fail
   refine CL.out.mono ?_
   rintro e w' ⟨rfl, hmv⟩
   have HM := Qh (Mr.before HB.out hmv)
   clear hmv
   go_wp2
   go_ret
   exact ⟨rfl, HM.out⟩
 by_cases h9 : what = 9
 · have hr : r = (0, t.crash op.ks) := HD.out.trans (by rw [if_neg (by omega), if_neg (by omega), if_neg (by omega), if_neg (by omega), if_neg (by omega), if_pos (by omega)])
   subst hr h9
   clear HD
   go_enter Tryz.func24, Tryz.ntmps24
   go_wp2_with fail
   refine CC.out.mono ?_
   rintro e w' ⟨rfl, hmv⟩
   have HM := Qh (Mr.before HB.out hmv)
   clear hmv
   go_wp2
   go_ret
   exact ⟨rfl, HM.out⟩
 have hr : r = t.write op.nm.data.toList op.bs := HD.out.trans (by rw [if_neg (by omega), if_neg (by omega), if_neg (by omega), if_neg (by omega), if_neg (by omega), if_neg (by omega)])
 subst hr
 clear HD
 go_enter Tryz.func24, Tryz.ntmps24
 go_wp2_with fail
 refine CW.out.mono ?_
 rintro e w' ⟨rfl, hmv⟩
 have HM := Qh (Mr.before HB.out hmv)
 clear hmv
 go_wp2
 go_ret
 exact ⟨rfl, HM.out⟩
end
end
section
open Go.RowKit Go.Sort
open Go.Maps
theorem OpsIn.at_later {w w' : World} {B : Nat} {a : Option Addr} {len cap : Nat} {l : List OpV} (h : OpsIn w B a len cap l) (hb : Below B w w') {k : Nat} (hk : k < len) : ∃ b o op, a = some ⟨b, o, none⟩ ∧ l[k]? = some op ∧
 (w'.cell? ⟨b, o + k * 6, none⟩ = some (.int .i64 op.what) ∧ w'.cell? ⟨b, o + k * 6 + 1, none⟩ = some (.string op.nm) ∧ w'.cell? ⟨b, o + k * 6 + 2, none⟩ = some (.string op.to_) ∧
  w'.cell? ⟨b, o + k * 6 + 3, none⟩ = some (.slice op.ba op.bs.length op.bc) ∧ w'.cell? ⟨b, o + k * 6 + 4, none⟩ = some (.int .i64 op.n) ∧ w'.cell? ⟨b, o + k * 6 + 5, none⟩ = some (.slice op.ka op.ks.length op.kc)) ∧ OpIn w' B op := by
 have h' := h.below hb Qn
 obtain ⟨b, o, e, _, hc⟩ := h'.at_ (by omega)
 have hl := h.length
 have hop : l[k]? = some (l[k]'(by omega)) := List.getElem?_eq_getElem (by omega)
 exact ⟨b, o, _, e, hop, (hc k _ hop).1, (hc k _ hop).2⟩
end
section
open Go.RowKit Go.Sort
open Go.Maps
section
variable {w0 w w' : World} {dp rp : Nat} {t u t' : St} {O P : Nat → Prop}
theorem DP.do_ (h : DP w0 w dp rp t u O P) (op : OpV) {B : Nat} (ho : OpIn w B op) (hB : B ≤ w0.heap.size) :
 Calls Tryz.prog 23 #[.pointer (some ⟨dp, 0, none⟩), opVal op] w fun e w' => e = .returned (.int .i64 (t.do_ op).1) ∧ ∃ O', DP w0 w' dp rp (t.do_ op).2 u O' P ∧ Below w0.heap.size w w' :=
 (do_any h.dk op ho hB).mono fun e w' hd => by
  obtain ⟨h1, h2⟩ := hd
  obtain ⟨O', h3, h4⟩ := h.one h2
  exact ⟨h1, O', h3, h4.below h.dk.below.size h.dk.base⟩
theorem DP.plain (h : DP w0 w dp rp t u O P) (op : OpV) {B : Nat} (ho : OpIn w B op) (hB : B ≤ w0.heap.size) :
 Calls Tryz.prog 24 #[.pointer (some ⟨rp, 0, none⟩), opVal op] w fun e w' => e = .returned (.int .i64 (u.do_ op).1) ∧ ∃ P', DP w0 w' dp rp t (u.do_ op).2 O P' ∧ Below w0.heap.size w w' :=
 (plain_any h.rk op ho hB).mono fun e w' hd => by
  obtain ⟨h1, h2⟩ := hd
  obtain ⟨P', h3, h4⟩ := h.two h2
  exact ⟨h1, P', h3, h4.below h.rk.below.size h.rk.base⟩
end
end
section
open Go.RowKit Go.Sort
open Go.Maps
open Crc Frm
section
variable {w0 w w' : World} {dp rp lp qp size : Nat} {g h g' h' : Lg} {t u t' u' : St} {D E : Nat → Prop} {sa sb : Option Addr} {sc sd : Nat}
theorem LP.on (k : LP w0 w dp rp lp qp size g h t u D sa sc E sb sd) (hb : Below w.heap.size w w') : LP w0 w' dp rp lp qp size g h t u D sa sc E sb sd := ⟨k.lk.on hb, k.rk.on hb, k.no⟩
theorem LP.both (k : LP w0 w dp rp lp qp size g h t u D sa sc E sb sd) : DP w0 w dp rp t u D E := ⟨k.lk.dk, k.rk.rk, fun j hd he => k.no j (.inl hd) (.inl he)⟩
end
end
section
open Go.ChangeShapes Go.WideShapes Go.ChangeAt Go.RowKit
def laidL : List (String × DataW Unit) := [("math/bits.deBruijn32tab", Rows.laid_math_bits_deBruijn32tab), ("math/bits.deBruijn64tab", Rows.laid_math_bits_deBruijn64tab), ("internal/strconv.uint64pow10", Rows.laid_internal_strconv_uint64pow10), ("strconv.ErrRange", Rows.laid_strconv_ErrRange), ("strconv.ErrSyntax", Rows.laid_strconv_ErrSyntax)]
theorem door_star : "*" ++ "errors.errorString" = "*errors.errorString" := by decide
theorem door_row (u : TypeId) (h : Tryz.prog.typeName? 3 u = some "*errors.errorString") : u = 238 :=
 typeName_ptr_named (nm := "errors.errorString") (by rw [door_star]; kernel_rfl) (by kernel_rfl) (by decide) u (by rw [door_star]; exact h)
theorem gSyn : Tryz.prog.globalNamed "strconv.ErrSyntax" = some 4 := by kernel_rfl
theorem gRng : Tryz.prog.globalNamed "strconv.ErrRange" = some 5 := by kernel_rfl
theorem gTab : Tryz.prog.globalNamed "internal/strconv.uint64pow10" = some 0 := by kernel_rfl
theorem tSyn : (Tryz.prog.globals[4]?).map (·.type) = some 166 := by kernel_rfl
theorem tRng : (Tryz.prog.globals[5]?).map (·.type) = some 166 := by kernel_rfl
theorem tTab : (Tryz.prog.globals[0]?).map (·.type) = some 214 := by kernel_rfl
theorem laid_of {W : World} (h : laidMetH Tryz.prog laidL W) : Laid W := by
 rw [MakeChecks.laidMetH_plain _ _ _ (by kernel_rfl)] at h
 have h2 := h.tail.tail
 have h3 := h2.tail
 have h4 := h3.tail
 obtain ⟨a1, s1, hv1, _, _, _⟩ := laid_sentinel h3 gRng tRng Tryz.underlying166 door_row Tryz.underlying238 Tryz.underlying240 rfl rfl Tryz.underlying9 (by kernel_rfl) (by kernel_rfl)
 obtain ⟨a0, s0, hv0, _, _, _⟩ := laid_sentinel h4 gSyn tSyn Tryz.underlying166 door_row Tryz.underlying238 Tryz.underlying240 rfl rfl Tryz.underlying9 (by kernel_rfl) (by kernel_rfl)
 exact ⟨Lib.tabIs_of_head gTab tTab Tryz.underlying214 Tryz.underlying133 (by kernel_rfl) (by kernel_rfl) h2,
  ⟨_, by simpa using World.var?_cell gSyn hv0 0, .inr ⟨_, _, rfl⟩⟩, ⟨_, by simpa using World.var?_cell gRng hv1 0, .inr ⟨_, _, rfl⟩⟩⟩
theorem door_met (os : Os) (args : Array Value) : laidMetH Tryz.prog laidL ((World.doorLaid Tryz.prog 400 os).forCall (fun _ _ => 0) ⟨#[], args, []⟩).memory :=
 laidMetH_of_parts3 (fuel := 8) (laidMet_of_run' 8 (by kernel_rfl) (by kernel_rfl)) (by kernel_rfl) (by kernel_rfl)
end
end Go.Proofs.YtamblmoedommfaaGreatDoor

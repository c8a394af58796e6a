/- What the frame of the claim needs besides. -/
import Derived.Test.YtamblmoedommfaaGreatDoorSqa
import Derived.Test.YtamblmoedommfaaGreatDoorSqb
import Derived.Test.YtamblmoedommfaaGreatDoorSqc
import Derived.Test.YtamblmoedommfaaGreatDoorSqd
import Derived.Test.YtamblmoedommfaaGreatDoorSqe
import Derived.Test.YtamblmoedommfaaGreatDoorSqf
import Derived.Test.YtamblmoedommfaaGreatDoorSqg
import Derived.Test.YtamblmoedommfaaGreatDoorSqh
import Derived.Test.YtamblmoedommfaaGreatDoorSqi
import Derived.Test.YtamblmoedommfaaGreatDoorSqj
import Derived.Test.YtamblmoedommfaaGreatDoorSqk
import Derived.Test.YtamblmoedommfaaGreatDoorSqua
import Derived.WalkKit
import Derived.Laws.Rows
import Derived.Laws.IdiomCopy
import Derived.Deep.MidRow
import Derived.Below
import Derived.Lib.Hide
import Derived.IntWalk
import Derived.OpenShut
import Derived.Test.YtamblmoedommfaaGreatDoorProg
import Derived.Test.YtamblmoedommfaaGreatDoorChecked
import Derived.Lib.SmallJoins
import Derived.ChangeSlices
import Derived.ProofKit
import Derived.Deep.Slices
import Derived.SizedLaws
import Derived.Test.YtamblmoedommfaaGreatDoorRows
import Derived.LaidMore
import Derived.LaidHandle
import Derived.MakeChecks
import Derived.Lib.LaidTab
import Derived.Stop.LaidErr
namespace Go.Proofs.YtamblmoedommfaaGreatDoor
set_option maxRecDepth 100000
set_option maxHeartbeats 40000000
set_option linter.unusedVariables false
set_option linter.unusedSimpArgs false
set_option linter.unusedSectionVars false
section
open Go.RowKit
theorem Sl.of_row {w : World} {a : Option Addr} {len cap : Nat} {zs : List Int} (h : (a = none ∧ len = 0 ∧ cap = 0 ∧ zs = []) ∨
 ∃ x, a = some x ∧ len ≤ cap ∧ cap ≤ maxLen ∧ zs.length = cap ∧ (∀ i, i < zs.length → w.cell? (x.add i) = some (.int .u8 (zs.getD i 0))) ∧ ∀ n ∈ zs, (Lit.int .u8 n).wf = true) :
 ∃ bs, Sl w w.heap.size a len cap bs := by
 rcases h with ⟨rfl, rfl, rfl, rfl⟩ | ⟨x, rfl, hl, hm, hz, hc, hw⟩
 · exact ⟨[], Sl.nil_⟩
 have hb : ∀ n ∈ zs, 0 ≤ n ∧ n < 256 := fun n hn => by have := bounds_u8 (hw n hn); omega
 refine ⟨(zs.take len).map Int.toNat, by simp [hz, hl], hl, hm, ?_, fun e => by (cases e), fun hp => ?_⟩
 · intro c hcm
   obtain ⟨n, hn, rfl⟩ := List.mem_map.1 hcm
   have := hb n (List.mem_of_mem_take hn)
   omega
 obtain ⟨b, off, spot⟩ := x
 have h0 := hc 0 (by omega)
 have hs : spot = none := by simpa [Addr.add] using World.cell?_spot h0
 subst hs
 refine ⟨b, off, rfl, block_lt_of_cell h0, fun k hk => ?_⟩
 have hk' := hc k (by omega)
 rw [Addr.add_mid] at hk'
 rw [hk', List.getD_eq_getElem?_getD, List.getD_eq_getElem?_getD, List.getElem?_map, List.getElem?_take_of_lt hk, List.getElem?_eq_getElem (by omega)]
 have := hb zs[k] (List.getElem_mem _)
 simp only [Option.getD_some, Option.map_some]
 rw [Int.toNat_of_nonneg this.1]
end
section
open Go.ChangeShapes Go.WideShapes Go.RowKit
section
variable {H : Type} {enc : TypeId × Value → H}
theorem open_bytes {W : World} {fuel : Nat} {v : Value} {x : DataW H × List MemPlace} (h : DataW.trod enc Tryz.prog W 0 (fun _ => true) true fuel 38 [v] = some x) :
 ∃ a cap bs, v = .slice a bs.length cap ∧ Sl W W.heap.size a bs.length cap bs := by
 rcases open_ints Tryz.underlying38 Tryz.underlying5 (by kernel_rfl) h with ⟨hcs, _⟩ | ⟨a, l, c, zs, hcs, _, hl, hm, hz, _, hcell, hwz⟩
 · simp at hcs
   subst hcs
   exact ⟨none, 0, [], rfl, Sl.nil_⟩
 simp at hcs
 subst hcs
 obtain ⟨bs, hs⟩ := Sl.of_row (w := W) (a := some a) (len := l) (cap := c) (zs := zs) (.inr ⟨a, rfl, hl, hm, by simpa using hz, hcell, hwz⟩)
 have := hs.length
 subst this
 exact ⟨some a, c, bs, rfl, hs⟩
end
end
section
open Go.ChangeShapes Go.WideShapes Go.RowKit
instance : Inhabited OpV := ⟨⟨0, ⟨#[]⟩, ⟨#[]⟩, none, 0, [], 0, none, 0, []⟩⟩
section
variable {H : Type} {enc : TypeId × Value → H}
theorem open_ints0 {W : World} {fuel : Nat} {v : Value} {x : DataW H × List MemPlace} (h : DataW.trod enc Tryz.prog W 0 (fun _ => true) true fuel 39 [v] = some x) :
 ∃ a cap ks, v = .slice a (List.length ks) cap ∧ Row W W.heap.size a (List.length ks) cap 1 (intsC ks) ∧ ∀ k ∈ ks, -9223372036854775808 ≤ k ∧ k ≤ 9223372036854775807 := by
 rcases open_ints Tryz.underlying39 Tryz.underlying3 (by kernel_rfl) h with ⟨hcs, _⟩ | ⟨a, l, c, zs, hcs, _, hl, hm, hz, _, hcell, hwz⟩
 · simp at hcs
   subst hcs
   exact ⟨none, 0, [], rfl, ⟨Nat.le_refl _, by simp [maxLen], fun h => absurd h (by simp)⟩, by simp⟩
 simp at hcs
 subst hcs
 simp at hz
 have hln : (zs.take l).length = l := by rw [List.length_take]; omega
 refine ⟨some a, c, zs.take l, by rw [hln], ⟨by omega, hm, fun hp => ?_⟩, fun k hk => by have := bounds_i64 (hwz k (List.mem_of_mem_take hk)); omega⟩
 rw [hln] at hp ⊢
 obtain ⟨b, off, spot⟩ := a
 have h0 := hcell 0 (by omega)
 have hs : spot = none := by simpa [Addr.add] using World.cell?_spot h0
 subst hs
 refine ⟨b, off, rfl, block_lt_of_cell h0, fun j hj => ?_⟩
 have := hcell j (by omega)
 rw [Addr.add_mid] at this
 rw [this]
 simp only [intsC]
 rw [List.getD_eq_getElem?_getD, List.getD_eq_getElem?_getD, List.getElem?_take_of_lt (by omega)]
end
end
section
open Go.ChangeShapes Go.WideShapes Go.RowKit
instance : Inhabited OgV := ⟨⟨0, 0, none, 0, [], 0, none, 0, []⟩⟩
section
variable {H : Type} {enc : TypeId × Value → H}
theorem open_og {W : World} {n : Nat} {cs : List Value} {x : DataW H × List MemPlace} (h : DataW.trod enc Tryz.prog W 0 (fun _ => true) true n 41 cs = some x) :
 ∃ op : OgV, cs = ogC op ∧ OgIn W W.heap.size op := by
 obtain ⟨xs, n', _, hx, hcl, hxl, hf⟩ := DataW.trod_struct Tryz.underlying41 h
 have hcl : cs.length = 5 := hcl.trans (by kernel_rfl)
 have hxl : xs.length = 5 := hxl
 match cs, hcl, xs, hxl with
 | [c0, c1, c2, c3, c4], _, [y0, y1, y2, y3, y4], _ =>
  have g0 : DataW.trod enc Tryz.prog W 0 (fun _ => true) true n' 3 [c0] = some y0 := hf 0 _ rfl
  have g1 : DataW.trod enc Tryz.prog W 0 (fun _ => true) true n' 3 [c1] = some y1 := hf 1 _ rfl
  have g2 : DataW.trod enc Tryz.prog W 0 (fun _ => true) true n' 38 [c2] = some y2 := hf 2 _ rfl
  have g3 : DataW.trod enc Tryz.prog W 0 (fun _ => true) true n' 3 [c3] = some y3 := hf 3 _ rfl
  have g4 : DataW.trod enc Tryz.prog W 0 (fun _ => true) true n' 39 [c4] = some y4 := hf 4 _ rfl
  obtain ⟨e0, q0, _, w0⟩ := DataW.trod_int Tryz.underlying3 g0
  obtain ⟨e1, q1, _, w1⟩ := DataW.trod_int Tryz.underlying3 g1
  obtain ⟨ba, bc, bs, q2, hs⟩ := open_bytes g2
  obtain ⟨e3, q3, _, w3⟩ := DataW.trod_int Tryz.underlying3 g3
  obtain ⟨ka, kc, ks, q4, hk, _⟩ := open_ints0 g4
  simp at q0 q1 q3
  subst q0 q1 q2 q3 q4
  have b0 := bounds_i64 w0
  have b1 := bounds_i64 w1
  have b3 := bounds_i64 w3
  exact ⟨⟨e0, e1, ba, bc, bs, e3, ka, kc, ks⟩, rfl, ⟨hs, hk, by simpa using b0, by simpa using b1, by simpa using b3⟩⟩
theorem open_ogs {W : World} {r : Reach} {b0 : Nat} {v : Value} {d : DataW H} {p : List MemPlace} (hv : Value.okWide Tryz.prog W r b0 22 v) (h : DataW.Trod enc Tryz.prog W 0 (fun _ => true) true 22 v d p) :
 ∃ a cap l, v = .slice a (List.length l) cap ∧ OgsIn W W.heap.size a (List.length l) cap l := by
 obtain ⟨a, l, c, rfl⟩ := okWide_slice Tryz.underlying22 hv
 obtain ⟨fuel, hf⟩ := h
 have hf' : DataW.trod enc Tryz.prog W 0 (fun _ => true) true fuel 22 [.slice a l c] = some (d, p) := by simpa [Value.cells] using hf
 rcases Deep.open_slice Tryz.underlying22 hf' with ⟨hcs, _⟩ | ⟨x, len, cap, m, n, D, Pl, hcs, _, hl, hm, hmm, hx, hV⟩
 · simp at hcs
   obtain ⟨rfl, rfl, rfl⟩ := hcs
   exact ⟨none, 0, [], rfl, ⟨rfl, by simp, by simp [maxLen], fun h => absurd h (by simp)⟩⟩
 simp at hcs
 obtain ⟨rfl, rfl, rfl⟩ := hcs
 simp at hmm
 have hc5 : Tryz.prog.cellsOf 41 = 5 := by kernel_rfl
 obtain ⟨F, hF⟩ := Deep.choose_lt (α := OgV) (n := l) (p := fun i op => (∀ j, j < 5 → W.cell? ((x.add (i * 5)).add j) = (ogC op)[j]?) ∧ OgIn W W.heap.size op) (fun i hi => by
  obtain ⟨cs', hc, ht⟩ := hV i (by omega)
  rw [hc5] at hc
  obtain ⟨_, _, hat⟩ := World.cells?_some hc
  obtain ⟨op, e, ho⟩ := open_og ht
  subst e
  exact ⟨op, hat, ho⟩)
 refine ⟨some x, c, (List.range l).map F, by simp, ⟨by simp, by simpa using hl, hm, fun hp => ?_⟩⟩
 simp at hp
 obtain ⟨b, off, spot⟩ := x
 have h0 := (hF 0 hp).1 0 (by omega)
 have hs : spot = none := by
  have h0' : W.cell? (Addr.add (Addr.add ⟨b, off, spot⟩ (0 * 5)) 0) = some (.int .i64 (F 0).what) := h0
  simpa [Addr.add] using World.cell?_spot h0'
 subst hs
 have hlt : b < W.heap.size := by
  have h0' : W.cell? (Addr.add (Addr.add ⟨b, off, none⟩ (0 * 5)) 0) = some (.int .i64 (F 0).what) := h0
  simpa [Addr.add] using block_lt_of_cell h0'
 refine ⟨b, off, rfl, hlt, fun k op hop => ?_⟩
 rw [List.getElem?_map] at hop
 obtain ⟨i, hi, rfl⟩ := Option.map_eq_some_iff.1 hop
 have hkl : k < l := by have := (List.getElem?_eq_some_iff.1 hi).1; simpa using this
 rw [List.getElem?_range hkl] at hi
 injection hi with hi
 subst hi
 obtain ⟨hcell, ho⟩ := hF k hkl
 refine ⟨fun j hj => ?_, ho⟩
 have := hcell j hj
 rw [Addr.add_mid, Addr.add_mid] at this
 exact this
end
end
section
open Go.ChangeShapes Go.WideShapes Go.ChangeAt Go.RowKit
def laidL : List (String × DataW Unit) := [("math/bits.deBruijn32tab", Rows.laid_math_bits_deBruijn32tab), ("math/bits.deBruijn64tab", Rows.laid_math_bits_deBruijn64tab), ("internal/strconv.uint64pow10", Rows.laid_internal_strconv_uint64pow10), ("strconv.ErrRange", Rows.laid_strconv_ErrRange), ("strconv.ErrSyntax", Rows.laid_strconv_ErrSyntax)]
theorem door_star : "*" ++ "errors.errorString" = "*errors.errorString" := by decide
theorem door_row (u : TypeId) (h : Tryz.prog.typeName? 3 u = some "*errors.errorString") : u = 238 :=
 typeName_ptr_named (nm := "errors.errorString") (by rw [door_star]; kernel_rfl) (by kernel_rfl) (by decide) u (by rw [door_star]; exact h)
theorem gSyn : Tryz.prog.globalNamed "strconv.ErrSyntax" = some 4 := by kernel_rfl
theorem gRng : Tryz.prog.globalNamed "strconv.ErrRange" = some 5 := by kernel_rfl
theorem gTab : Tryz.prog.globalNamed "internal/strconv.uint64pow10" = some 0 := by kernel_rfl
theorem tSyn : (Tryz.prog.globals[4]?).map (·.type) = some 166 := by kernel_rfl
theorem tRng : (Tryz.prog.globals[5]?).map (·.type) = some 166 := by kernel_rfl
theorem tTab : (Tryz.prog.globals[0]?).map (·.type) = some 214 := by kernel_rfl
theorem laid_of {W : World} (h : laidMetH Tryz.prog laidL W) : Laid W := by
 rw [MakeChecks.laidMetH_plain _ _ _ (by kernel_rfl)] at h
 have h2 := h.tail.tail
 have h3 := h2.tail
 have h4 := h3.tail
 obtain ⟨a1, s1, hv1, _, _, _⟩ := laid_sentinel h3 gRng tRng Tryz.underlying166 door_row Tryz.underlying238 Tryz.underlying240 rfl rfl Tryz.underlying9 (by kernel_rfl) (by kernel_rfl)
 obtain ⟨a0, s0, hv0, _, _, _⟩ := laid_sentinel h4 gSyn tSyn Tryz.underlying166 door_row Tryz.underlying238 Tryz.underlying240 rfl rfl Tryz.underlying9 (by kernel_rfl) (by kernel_rfl)
 exact ⟨Lib.tabIs_of_head gTab tTab Tryz.underlying214 Tryz.underlying133 (by kernel_rfl) (by kernel_rfl) h2,
  ⟨_, by simpa using World.var?_cell gSyn hv0 0, .inr ⟨_, _, rfl⟩⟩, ⟨_, by simpa using World.var?_cell gRng hv1 0, .inr ⟨_, _, rfl⟩⟩⟩
theorem door_met (os : Os) (args : Array Value) : laidMetH Tryz.prog laidL ((World.doorLaid Tryz.prog 400 os).forCall (fun _ _ => 0) ⟨#[], args, []⟩).memory :=
 laidMetH_of_parts3 (fuel := 8) (laidMet_of_run' 8 (by kernel_rfl) (by kernel_rfl)) (by kernel_rfl) (by kernel_rfl)
end
end Go.Proofs.YtamblmoedommfaaGreatDoor

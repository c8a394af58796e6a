/- Arguments that came in, opened: rows of bands. -/
import Derived.Test.YtpgjjdpblilljaaProg
import Derived.Test.YtpgjjdpblilljaaChecked
import Derived.Lib.SmallJoins
import Derived.ChangeSlices
import Derived.ProofKit
import Derived.OpenShut
import Derived.Deep.Slices
import Derived.ChangeOld
import Derived.SizedLaws
import Derived.Test.YtpgjjdpblilljaaPrw
import Derived.Deep.SlicePairs
namespace Go.Proofs.Ytpgjjdpblilljaa
set_option linter.unusedSimpArgs false
set_option linter.unusedVariables false
open Go.ChangeShapes Go.WideShapes Go.RowKit
open Wir Evn

section
variable {H : Type} {enc : TypeId × Value → H}
theorem i64_of {n : Int} (h : (Lit.int .i64 n).wf = true) : I64 n := bounds_i64 h
set_option maxRecDepth 100000 in
/-- A slice of pairs, cell by cell. -/
theorem open_bands {W : World} {fuel : Nat} {v : Value} {x : DataW H × List MemPlace} (h : DataW.trod enc Try.prog W 0 (fun _ => true) true fuel 22 [v] = some x) :
    ∃ a cap l, v = .slice a (List.length l) cap ∧ PRow W a (List.length l) cap l ∧ All64 (pairs l) := by
  rcases Deep.open_slice Try.underlying22 h with ⟨hcs, _⟩ | ⟨x, len, cap, m, n, D, Pl, hcs, _, hl, hm, hmm, hx, hV⟩
  · simp at hcs
    subst hcs
    exact ⟨none, 0, [], rfl, PRow.nil_, all64_nil⟩
  · simp at hcs
    subst hcs
    simp at hmm
    have hc2 : Try.prog.cellsOf 56 = 2 := by kernel_rfl
    obtain ⟨F, hF⟩ := Deep.choose_lt (α := Int × Int) (n := len) (p := fun i q => (∀ j, j < 2 → W.cell? ((x.add (i * 2)).add j) = [Value.int .i64 q.1, .int .i64 q.2][j]?) ∧ I64 q.1 ∧ I64 q.2) (fun i hi => by
      obtain ⟨cs', hc, ht⟩ := hV i (by omega)
      rw [hc2] at hc
      obtain ⟨_, _, hat⟩ := World.cells?_some hc
      obtain ⟨xs, n', _, hx', hcl, hxl, hf⟩ := DataW.trod_struct Try.underlying56 ht
      have hcl : cs'.length = 2 := hcl.trans (by kernel_rfl)
      have hxl : xs.length = 2 := hxl
      match cs', hcl, xs, hxl with
      | [c0, c1], _, [y0, y1], _ =>
        have g0 : DataW.trod enc Try.prog W 0 (fun _ => true) true n' 2 [c0] = some y0 := hf 0 _ rfl
        have g1 : DataW.trod enc Try.prog W 0 (fun _ => true) true n' 3 [c1] = some y1 := hf 1 _ rfl
        obtain ⟨e0, q0, _, w0⟩ := DataW.trod_int Try.underlying2 g0
        obtain ⟨e1, q1, _, w1⟩ := DataW.trod_int Try.underlying3 g1
        simp at q0 q1
        subst q0 q1
        exact ⟨(e0, e1), fun j hj => hat j hj, i64_of w0, i64_of w1⟩)
    have hlen : ((List.range len).map F).length = len := by simp
    have hg : ∀ k, k < len → ((List.range len).map F).getD k (0, 0) = F k := fun k hk => by
      rw [List.getD_eq_getElem?_getD, List.getElem?_map, List.getElem?_range hk]; rfl
    refine ⟨some x, cap, (List.range len).map F, by rw [hlen], ⟨⟨by rw [hlen]; exact hl, hm, fun hp => ?_⟩, rfl⟩, fun z hz => ?_⟩
    · rw [hlen] at hp ⊢
      obtain ⟨b, off, spot⟩ := x
      have h0 := (hF 0 hp).1 0 (by decide)
      have hs : spot = none := by simpa [Addr.add] using World.cell?_spot h0
      subst hs
      refine ⟨b, off, rfl, by have := block_lt_of_cell h0; simpa [Addr.add] using this, fun j hj => ?_⟩
      have hk := (hF (j / 2) (by omega)).1 (j % 2) (Nat.mod_lt _ (by decide))
      rw [Addr.add_mid, Addr.add_mid, Nat.add_assoc, show j / 2 * 2 + j % 2 = j from by omega] at hk
      rw [hk]
      have h3 : j % 2 = 0 ∨ j % 2 = 1 := by omega
      have hp := pairs_get ((List.range len).map F) (j / 2)
      rw [hg _ (by omega)] at hp
      simp only [intsC]
      rcases h3 with h | h
      · rw [h]
        have : j = j / 2 * 2 := by omega
        conv => rhs; rw [this]
        rw [hp.1]; rfl
      · rw [h]
        have : j = j / 2 * 2 + 1 := by omega
        conv => rhs; rw [this]
        rw [hp.2]; rfl
    · unfold pairs at hz
      obtain ⟨q, hq, hz⟩ := List.mem_flatMap.1 hz
      obtain ⟨i, hi, rfl⟩ := List.mem_map.1 hq
      have := (hF i (List.mem_range.1 hi)).2
      simp only [List.mem_cons, List.not_mem_nil, or_false] at hz
      rcases hz with rfl | rfl
      · exact this.1
      · exact this.2
set_option maxRecDepth 100000 in
theorem open_bands1 {W : World} {r : Reach} {b0 : Nat} {v : Value} {d : DataW H} {p : List MemPlace} (hv : Value.okWide Try.prog W r b0 22 v) (h : DataW.Trod enc Try.prog W 0 (fun _ => true) true 22 v d p) :
    ∃ a cap l, v = .slice a (List.length l) cap ∧ PRow W a (List.length l) cap l ∧ All64 (pairs l) := by
  obtain ⟨a, l, c, rfl⟩ := okWide_slice Try.underlying22 hv
  obtain ⟨fuel, hf⟩ := h
  exact open_bands (by simpa [Value.cells] using hf)
end
end Go.Proofs.Ytpgjjdpblilljaa

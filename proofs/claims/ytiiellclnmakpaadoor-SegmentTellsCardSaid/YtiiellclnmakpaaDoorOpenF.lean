/- Arguments that came in, opened: bytes, frames. -/
import Derived.Test.YtiiellclnmakpaaDoorLine
import Derived.Test.YtiiellclnmakpaaDoorFrm
import Derived.Test.YtiiellclnmakpaaDoorProg
import Derived.Test.YtiiellclnmakpaaDoorChecked
import Derived.Lib.SmallJoins
import Derived.ChangeSlices
import Derived.ProofKit
import Derived.OpenShut
import Derived.Deep.Slices
namespace Go.Proofs.YtiiellclnmakpaaDoor
open Go.ChangeShapes Go.WideShapes Go.RowKit
open Frm

section
variable {H : Type} {enc : TypeId × Value → H}

set_option maxRecDepth 100000 in
/-- A slice of bytes, cell by cell. -/
theorem open_bytes {W : World} {fuel : Nat} {v : Value} {x : DataW H × List MemPlace} (h : DataW.trod enc Tryd.prog W 0 (fun _ => true) true fuel 22 [v] = some x) :
    ∃ a cap bs, v = .slice a bs.length cap ∧ Sl W W.heap.size a bs.length cap bs := by
  rcases open_ints Tryd.underlying22 Tryd.underlying5 (by kernel_rfl) h with ⟨hcs, _⟩ | ⟨a, l, c, zs, hcs, _, hl, hm, hz, _, hcell, hwz⟩
  · simp at hcs
    subst hcs
    exact ⟨none, 0, [], rfl, Sl.nil_⟩
  · simp at hcs
    subst hcs
    obtain ⟨bs, hs⟩ := Sl.of_row (w := W) (a := some a) (len := l) (cap := c) (zs := zs) (.inr ⟨a, rfl, hl, hm, by simpa using hz, hcell, hwz⟩)
    have := hs.length
    subst this
    exact ⟨some a, c, bs, rfl, hs⟩
set_option maxRecDepth 100000 in
theorem open_bytes1 {W : World} {r : Reach} {b0 : Nat} {v : Value} {d : DataW H} {p : List MemPlace} (hv : Value.okWide Tryd.prog W r b0 22 v) (h : DataW.Trod enc Tryd.prog W 0 (fun _ => true) true 22 v d p) :
    ∃ a cap bs, v = .slice a bs.length cap ∧ Sl W W.heap.size a bs.length cap bs := by
  obtain ⟨a, l, c, rfl⟩ := okWide_slice Tryd.underlying22 hv
  obtain ⟨fuel, hf⟩ := h
  exact open_bytes (by simpa [Value.cells] using hf)
set_option maxRecDepth 100000 in
theorem open_frame {W : World} {r : Reach} {b0 : Nat} {v : Value} {d : DataW H} {p : List MemPlace} (hv : Value.okWide Tryd.prog W r b0 36 v) (h : DataW.Trod enc Tryd.prog W 0 (fun _ => true) true 36 v d p) :
    ∃ (f : Fr) (a : Option Addr) (cap : Nat), v = .agg #[.int .i64 f.ty, .int .i64 f.seq, .slice a f.body.length cap] ∧ Sl W W.heap.size a f.body.length cap f.body ∧ (Lit.int .i64 f.ty).wf = true ∧ (Lit.int .i64 f.seq).wf = true := by
  obtain ⟨v0, v1, v2, y0, y1, y2, n, rfl, _, _, h0, h1, h2⟩ := Joins.open_agg3 Tryd.underlying36 (by kernel_rfl) (by kernel_rfl) hv h
  obtain ⟨ty, e0, _, w0⟩ := DataW.trod_int Tryd.underlying3 h0
  obtain ⟨sq, e1, _, w1⟩ := DataW.trod_int Tryd.underlying2 h1
  obtain ⟨a, cap, bs, e2, hs⟩ := open_bytes h2
  simp at e0 e1
  subst e0 e1 e2
  exact ⟨⟨ty, sq, bs⟩, a, cap, rfl, hs, w0, w1⟩
end
end Go.Proofs.YtiiellclnmakpaaDoor

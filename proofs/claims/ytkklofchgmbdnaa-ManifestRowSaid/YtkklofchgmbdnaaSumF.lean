/- Contracts of the program's sum for the midst of a statement. -/
import Derived.Test.YtkklofchgmbdnaaSumC
namespace Go.Proofs.Ytkklofchgmbdnaa
open Go.RowKit
open Crc

/-- The same contracts, for the midst of a statement: B and the world in which it began are kept. -/
theorem of_from {B : Nat} {w0 : World} {a : Option Addr} {len cap : Nat} {bs : List Nat} (hB : B ≤ w0.heap.size) (hs : Sl w0 B a len cap bs) (w : World) (hb : Below B w0 w) :
    Calls Try.prog 53 #[.slice a len cap] w fun e w' => e = .returned (.int .u32 ((more 0 bs : Nat) : Int)) ∧ Below B w0 w' :=
  (of_any a len cap bs w ((hs.below hb (Nat.le_refl _)).more (Nat.le_trans hB hb.size))).mono fun _ _ ⟨he, h2⟩ => ⟨he, hb.trans (h2.mono (Nat.le_trans hB hb.size))⟩
theorem more_from {B : Nat} {w0 : World} {a : Option Addr} {len cap : Nat} {bs : List Nat} (s : Nat) (h : s < 4294967296) (hB : B ≤ w0.heap.size) (hs : Sl w0 B a len cap bs) (w : World) (hb : Below B w0 w) :
    Calls Try.prog 81 #[.int .u32 (s : Int), .slice a len cap] w fun e w' => e = .returned (.int .u32 ((more s bs : Nat) : Int)) ∧ Below B w0 w' :=
  (more_any s h a len cap bs w ((hs.below hb (Nat.le_refl _)).more (Nat.le_trans hB hb.size))).mono fun _ _ ⟨he, h2⟩ => ⟨he, hb.trans (h2.mono (Nat.le_trans hB hb.size))⟩

theorem info_u8 : (Try.prog.info? 5).map (fun i => (i.zero, i.size, i.bytes)) = some (some (.int .u8 0), 1, 1) := by kernel_rfl
end Go.Proofs.Ytkklofchgmbdnaa

/- Contracts of the program's frame: Get and Scan of bytes whose answer is known. -/
import Derived.Test.YtiiellclnmakpaaDoorFrT
namespace Go.Proofs.YtiiellclnmakpaaDoor
open Go.RowKit
open Crc Frm

/-- Get, of bytes whose answer is known. -/
theorem get_of {bs : List Nat} {f : Fr} {n er : Nat} (hg : get bs = (f, n, er)) (a : Option Addr) (len cap : Nat) (w : World) (hs : Sl w w.heap.size a len cap bs) :
    Calls Tryd.prog 38 #[.slice a len cap] w fun e w' => ∃ ba bc, e = .returned (.tuple #[.agg #[.int .i64 f.ty, .int .i64 f.seq, .slice ba f.body.length bc], .int .i64 (n : Int), .int .i64 (er : Int)]) ∧
      Sl w' w'.heap.size ba f.body.length bc f.body ∧ Below w.heap.size w w' ∧ (∀ b o, ba = some ⟨b, o, none⟩ → w.heap.size ≤ b) := by
  have := get_any a len cap bs w hs
  rw [hg] at this
  exact this
/-- Scan, of bytes whose answer is known. -/
theorem scan_of {bs : List Nat} {fs : List Fr} {n : Nat} {first : Int} (hg : scan bs first = (fs, n)) (a : Option Addr) (len cap : Nat) (w : World) (hs : Sl w w.heap.size a len cap bs) (hlen : len ≤ 100000) (hf0 : -9223372036854775808 ≤ first) (hf1 : first < 9223372036854775808) :
    Calls Tryd.prog 21 #[.slice a len cap, .int .i64 first] w fun e w' => ∃ va vc, e = .returned (.tuple #[.slice va fs.length vc, .int .i64 (n : Int)]) ∧ Frs w' w'.heap.size va fs.length vc fs ∧ Below w.heap.size w w' := by
  refine (scan_any a len cap bs first w hs hlen hf0 hf1).mono ?_
  rintro e w' ⟨v, ts, rfl, ho, hts, hb⟩
  rw [hg] at hts
  simp only at hts
  obtain ⟨va, vc, hv, hfr⟩ := ho.frs
  rw [hg]
  have hl : ts.length = fs.length := by rw [← hts, List.length_map]
  rw [hts] at hfr
  rw [hl] at hv hfr
  exact ⟨va, vc, by rw [hv], hfr, hb⟩

end Go.Proofs.YtiiellclnmakpaaDoor

/- A slice of slices of bytes. -/
import Derived.Test.YtkmdnmjbjbkpdaaLine
namespace Go.Proofs.Ytkmdnmjbjbkpdaa
open Go.RowKit

/-- A slice of slices of bytes that lies below block B. -/
structure Sls (w : World) (B : Nat) (a : Option Addr) (len cap : Nat) (bss : List (List Nat)) : Prop where
  length : bss.length = len
  le : len ≤ cap
  max : cap ≤ maxLen
  at_ : 0 < len → ∃ b o, a = some ⟨b, o, none⟩ ∧ b < B ∧ ∀ (k : Nat) (bs : List Nat), bss[k]? = some bs → ∃ ba bc, w.cell? ⟨b, o + k, none⟩ = some (.slice ba bs.length bc) ∧ Sl w B ba bs.length bc bs
theorem Sls.below {w w' : World} {B B' : Nat} {a : Option Addr} {len cap : Nat} {bss : List (List Nat)} (h : Sls w B a len cap bss) (hb : Below B' w w') (hB : B ≤ B') : Sls w' B' a len cap bss :=
  ⟨h.length, h.le, h.max, fun hp => by
    obtain ⟨b, o, e, hlt, hc⟩ := h.at_ hp
    refine ⟨b, o, e, by omega, fun k bs hk => ?_⟩
    obtain ⟨ba, bc, h1, h2⟩ := hc k bs hk
    exact ⟨ba, bc, (hb.cell (p := ⟨b, o + k, none⟩) (by show b < B'; omega)).trans h1, h2.below hb hB⟩⟩
end Go.Proofs.Ytkmdnmjbjbkpdaa

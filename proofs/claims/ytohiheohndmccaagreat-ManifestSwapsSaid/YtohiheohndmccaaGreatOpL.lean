/- One of the statements' operations, later on. -/
import Derived.Test.YtohiheohndmccaaGreatDkQ
namespace Go.Proofs.YtohiheohndmccaaGreat
open Go.RowKit Go.Sort
open Go.Maps

theorem OpsIn.at_later {w w' : World} {B : Nat} {a : Option Addr} {len cap : Nat} {l : List OpV} (h : OpsIn w B a len cap l) (hb : Below B w w') {k : Nat} (hk : k < len) : ∃ b o op, a = some ⟨b, o, none⟩ ∧ l[k]? = some op ∧
    (w'.cell? ⟨b, o + k * 6, none⟩ = some (.int .i64 op.what) ∧ w'.cell? ⟨b, o + k * 6 + 1, none⟩ = some (.string op.nm) ∧ w'.cell? ⟨b, o + k * 6 + 2, none⟩ = some (.string op.to_) ∧
      w'.cell? ⟨b, o + k * 6 + 3, none⟩ = some (.slice op.ba op.bs.length op.bc) ∧ w'.cell? ⟨b, o + k * 6 + 4, none⟩ = some (.int .i64 op.n) ∧ w'.cell? ⟨b, o + k * 6 + 5, none⟩ = some (.slice op.ka op.ks.length op.kc)) ∧ OpIn w' B op := by
  have h' := h.below hb (Nat.le_refl _)
  obtain ⟨b, o, e, _, hc⟩ := h'.at_ (by omega)
  have hl := h.length
  have hop : l[k]? = some (l[k]'(by omega)) := List.getElem?_eq_getElem (by omega)
  exact ⟨b, o, _, e, hop, (hc k _ hop).1, (hc k _ hop).2⟩
end Go.Proofs.YtohiheohndmccaaGreat

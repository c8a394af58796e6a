/- The reference's disk: Write and Rename, whole. -/
import Derived.Test.YtohiheohndmccaaRdK
import Derived.Test.YtohiheohndmccaaRdO
namespace Go.Proofs.Ytohiheohndmccaa
open Go.RowKit
open Go.Maps
section
variable {w : World} {rp : Nat} {t : St} {O : Nat → Prop}
theorem rwrite_any (h : Rd w rp t O) (s : ByteArray) (hsz : s.size ≤ maxLen) (ba : Option Addr) (bn bc : Nat) (b : List Nat) (hb : Sl w w.heap.size ba bn bc b) (hbn : bn ≤ 140737488351232) (hfar : 0 < bn → ∀ k o, ba = some ⟨k, o, none⟩ → ¬ O k) :
    Calls Try.prog 32 #[.pointer (some ⟨rp, 0, none⟩), .string s, .slice ba bn bc] w fun e w' => e = .returned (.int .i64 (t.write s.data.toList b).1) ∧ RMv w rp O (t.write s.data.toList b).2 w' := by
  obtain ⟨a, c, es, h⟩ := h
  by_cases hf : t.fuse = 0
  · exact rwrite_early h s hsz ba bn bc b hb hbn (.inl hf)
  cases hnm : nmOk s.data.toList with
  | false => exact rwrite_early h s hsz ba bn bc b hb hbn (.inr hnm)
  | true =>
    cases hfit : fitsB t.D t.room s.data.toList b.length with
    | false => exact rwrite_full h s hsz ba bn bc b hb hbn hf hnm hfit
    | true =>
      by_cases hi : ridx es s.data.toList < es.length
      · exact rwrite_old h s hsz ba bn bc b hb hbn hfar hf hnm hi hfit
      · exact rwrite_new h s hsz ba bn bc b hb hbn hfar hf hnm hi hfit
theorem rrename_any (h : Rd w rp t O) (s tn : ByteArray) (hsz : tn.size ≤ maxLen) :
    Calls Try.prog 27 #[.pointer (some ⟨rp, 0, none⟩), .string s, .string tn] w fun e w' => e = .returned (.int .i64 (t.rename s.data.toList tn.data.toList).1) ∧ RMv w rp O (t.rename s.data.toList tn.data.toList).2 w' := by
  obtain ⟨a, c, es, h⟩ := h
  by_cases hf : t.fuse = 0
  · exact rrename_early h s tn hsz (.inl hf)
  cases hnm : nmOk tn.data.toList with
  | false => exact rrename_early h s tn hsz (.inr (.inl hnm))
  | true =>
    by_cases hi : ridx es s.data.toList < es.length
    · exact rrename_at h s tn hsz hf hnm hi
    · exact rrename_early h s tn hsz (.inr (.inr hi))
end
end Go.Proofs.Ytohiheohndmccaa

/- A reader and a writer, side by side. -/
import Derived.Test.YtkmdnmjbjbkpdaaWrK
namespace Go.Proofs.Ytkmdnmjbjbkpdaa
open Go.RowKit
open Wir

/-- A reader at g and a writer at p, behind all that was there in w0. -/
structure RW (w0 w : World) (g p : Nat) (O : Nat → Prop) (s : RS) (ds : List Nat) : Prop where
  rdr : Rdr 56 w g s O
  ge : ∀ k, O k → w0.heap.size ≤ k
  below : Below w0.heap.size w0 w
  wtr : ∃ Q, Wtr 41 w p ds Q ∧ ∀ k, Q k → ¬ O k ∧ w0.heap.size ≤ k
section
variable {w0 w w' : World} {g p : Nat} {O : Nat → Prop} {s s' : RS} {ds : List Nat}
theorem RW.on (h : RW w0 w g p O s ds) (hb : Below w.heap.size w w') : RW w0 w' g p O s ds := by
  obtain ⟨Q, h1, h2⟩ := h.wtr
  exact ⟨h.rdr.below hb, h.ge, h.below.trans (hb.mono h.below.size), Q, h1.below hb, h2⟩
theorem RW.read (h : RW w0 w g p O s ds) (hr : Rdr 56 w' g s' O) (hb : But O w w') : RW w0 w' g p O s' ds := by
  obtain ⟨Q, h1, h2⟩ := h.wtr
  exact ⟨hr, h.ge, But.under h.below hb h.ge, Q, h1.but hb (fun k hk => (h2 k hk).1), h2⟩
theorem RW.num (h : RW w0 w g p O s ds) (n : Int) (h1 : -9223372036854775808 ≤ n) (h2 : n ≤ 9223372036854775807) (hlen : ds.length ≤ 1000000000) :
    Calls Try.prog 20 #[.pointer (some ⟨p, 0, none⟩), .int .i64 n] w fun e w' => e = .returned (.tuple #[]) ∧ RW w0 w' g p O s (ds ++ dg (cnt n)) := by
  obtain ⟨Q, k1, k2⟩ := h.wtr
  refine (wnum_any k1 n h1 h2 hlen).mono fun e w' ⟨he, Q', q1, q2, q3⟩ => ⟨he, h.rdr.but q2 (fun k ho hq => (k2 k hq).1 ho), h.ge, But.under h.below q2 (fun k hk => (k2 k hk).2), Q', q1, fun k hk => ?_⟩
  rcases q3 k hk with h4 | h4
  · exact k2 k h4
  · exact ⟨fun ho => by have := h.rdr.lt k ho; omega, Nat.le_trans h.below.size h4⟩
theorem RW.get (h : RW w0 w g p O s ds) : Calls Try.prog 16 #[.pointer (some ⟨g, 0, none⟩)] w fun e w' => e = .returned (.int .i64 s.num.1) ∧ RW w0 w' g p O s.num.2 ds :=
  (num_any h.rdr).mono fun _ _ ⟨h1, h2, h3⟩ => ⟨h1, h.read h2 h3⟩
theorem RW.end_ (h : RW w0 w g p O s ds) : Calls Try.prog 18 #[.pointer (some ⟨g, 0, none⟩)] w fun e w' => e = .returned (.int .i64 ((s.end_ : Nat) : Int)) ∧ RW w0 w' g p O s ds :=
  (end_any h.rdr).mono fun _ _ ⟨h1, h2⟩ => ⟨h1, h.on h2⟩
end
end Go.Proofs.Ytkmdnmjbjbkpdaa

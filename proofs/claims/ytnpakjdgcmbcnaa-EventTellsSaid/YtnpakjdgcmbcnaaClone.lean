/- The library's Clone of bytes. -/
import Derived.Test.YtnpakjdgcmbcnaaInfU
import Derived.Test.YtnpakjdgcmbcnaaLine
import Derived.Lib.SliceRun
namespace Go.Proofs.Ytnpakjdgcmbcnaa
open Go.RowKit

set_option maxHeartbeats 400000 in
theorem clone_own (a : Option Addr) (len cap : Nat) (bs : List Nat) (w : World) (hs : Sl w w.heap.size a len cap bs) (hlen : len ≤ 140737488355328) :
    Calls Try.prog 47 #[.slice a len cap] w fun e w' => ∃ v, e = .returned v ∧ OwnB w' w.heap.size 5 v bs ∧ Below w.heap.size w w' := by
  have qT : ∀ (w : World) (a : Option Addr) (n c n' c' : Nat), (binOp .eql 28 (.slice a n c) (.slice none n' c')).run Try.prog w = .ok (.bool a.isNone) w := fun w a n c n' c' => Lib.run_eql_slice_nil w _ _ a n c n' c' Try.underlying28
  cases a with
  | none =>
    have hc0 := hs.none_ rfl
    have hl0 : len = 0 := by have := hs.le; omega
    subst hl0
    have hbs : bs = [] := List.eq_nil_of_length_eq_zero hs.length
    subst hbs
    go_enter Try.func47, Try.ntmps47
    go_wp2
    go_ret
    exact ⟨_, rfl, OwnB.nil_ _ _ _, Below.refl _ _⟩
  | some x =>
    have hl := hs.length
    have hown0 : OwnB (w.alloc (.cells #[] 5)) w.heap.size 5 (.slice (some ⟨w.heap.size, 0, none⟩) 0 0) [] := OwnB.lit _ [] (Nat.le_refl _) (by decide)
    have hs2 := hs.below ((Below.refl _ w).alloc (Nat.le_refl _) (.cells #[] 5)) (Nat.le_refl _)
    go_enter Try.func47, Try.ntmps47
    go_wp2_with (first | (at_builtin; refine wpList_append_sl rfl (.tmp 5) (.tmp 6) _ rfl w.heap.size _ Try.underlying28 info_u8 (.slice (some ⟨w.heap.size, 0, none⟩) 0 0) [] rfl hown0 _ (some x) len cap bs rfl hs2 (by simp; omega) (by simp) ?_; intro v1 w3 hown1 hg1 hat1))
    have hB3 : Below w.heap.size w w3 := ((Below.refl _ w).alloc (Nat.le_refl _) _).grown hg1 (by simp) (fun k hk => by simp [Value.ownBlock] at hk; omega)
    rw [List.nil_append] at hown1
    have H := Lib.hid (And.intro hown1 hB3)
    clear hg1 hat1 hown0 hown1 hB3
    go_wp2
    go_ret
    exact ⟨_, rfl, H.out⟩
theorem clone_any (a : Option Addr) (len cap : Nat) (bs : List Nat) (w : World) (hs : Sl w w.heap.size a len cap bs) (hlen : len ≤ 140737488355328) :
    Calls Try.prog 47 #[.slice a len cap] w fun e w' => ∃ ba bc, e = .returned (.slice ba len bc) ∧ Sl w' w'.heap.size ba len bc bs ∧ Below w.heap.size w w' ∧ ∀ b o, ba = some ⟨b, o, none⟩ → w.heap.size ≤ b :=
  (clone_own a len cap bs w hs hlen).mono fun e w' ⟨v, h1, h2, h3⟩ => by
    obtain ⟨a2, c2, hv, hs4, hbb⟩ := h2.sl_base hs.byte
    rw [hs.length] at hv hs4
    subst hv
    exact ⟨a2, c2, h1, hs4, h3, hbb⟩
end Go.Proofs.Ytnpakjdgcmbcnaa

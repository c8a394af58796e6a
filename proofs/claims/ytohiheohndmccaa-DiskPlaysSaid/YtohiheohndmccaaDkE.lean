/- Contracts of the program's disk: New, call, callOn. -/
import Derived.Test.YtohiheohndmccaaDkD
import Derived.Carry
namespace Go.Proofs.Ytohiheohndmccaa
open Go.RowKit
open Go.Maps
attribute [local go_sem] Oper.semAt_some

theorem new_yes (room : Nat) (hr : room ≤ 1048576) (w : World) : Calls Try.prog 5 #[.int .i64 (room : Int)] w fun e w' => e = .returned (.pointer (some ⟨w.heap.size + 1, 0, none⟩)) ∧ Below w.heap.size w w' ∧
    Dsk w' (w.heap.size + 1) (.map []) room (-1) 0 (fun k => k = w.heap.size ∨ k = w.heap.size + 1) := by
  have HD := Lib.hid (dsk_new w room hr)
  have hm := fun x => run_makeMap (P := Try.prog) 49 x
  go_enter Try.func5, Try.ntmps5
  go_wp2
  go_ret
  exact ⟨rfl, ((Below.refl _ _).alloc (Nat.le_refl _) _).alloc (by simp) _, HD.out⟩
theorem new_no (room : Int) (hr : ¬ (0 ≤ room ∧ room ≤ 1048576)) (w : World) : Calls Try.prog 5 #[.int .i64 room] w fun e w' => e = .returned (.pointer none) ∧ w = w' := by
  by_cases h0 : room < 0
  · go_enter Try.func5, Try.ntmps5
    go_wp2
    go_ret
    exact ⟨rfl, rfl⟩
  · have h1 : ¬ room ≤ 1048576 := by omega
    clear hr
    go_enter Try.func5, Try.ntmps5
    go_wp2
    go_ret
    exact ⟨rfl, rfl⟩

/-- The fuse behind a call. -/
def burn (fuse : Int) : Int := if 0 < fuse then fuse - 1 else fuse
theorem burn_ok {fuse : Int} (h : -1 ≤ fuse ∧ fuse ≤ 9223372036854775807) : -1 ≤ burn fuse ∧ burn fuse ≤ 9223372036854775807 := by unfold burn; split <;> omega
/-- A call that answers a number, and leaves what R says. -/
def Tells1 (R : Int → World → Prop) (e : Ending) (w' : World) : Prop := ∃ x : Int, e = .returned (.int .i64 x) ∧ R x w'
section
variable {w : World} {dp mb room : Nat} {C : DataW Fe} {D : FS} {fuse fails : Int} {O : Nat → Prop}
theorem call_dead (h : DskC w dp mb C D room 0 fails O) (v : Value) : Calls Try.prog 36 #[.pointer (some ⟨dp, 0, none⟩), v] w fun e w' => e = .returned (.int .i64 42) ∧ w = w' := by
  have c2 := h.cell.2.2.1
  clear h
  go_enter Try.func36, Try.ntmps36
  go_wp2
  go_ret
  exact ⟨rfl, rfl⟩
set_option maxRecDepth 100000 in
theorem call_do (h : DskC w dp mb C D room fuse fails O) (hf : fuse ≠ 0) (k : FuncId) (caps : Array Value) (hc : ∀ x, (callFunc k caps).run Try.prog x = .ok (.enter k caps) x) (R : Int → World → Prop)
    (hk : ∀ w1, DskC w1 dp mb C D room (burn fuse) fails O → But O w w1 → Calls Try.prog k caps w1 (Tells1 R)) :
    Calls Try.prog 36 #[.pointer (some ⟨dp, 0, none⟩), .func (.func k) #[] caps] w (Tells1 R) := by
  have c2 := h.cell.2.2.1
  have c3 := h.cell.2.2.2.2 2
  have hfb := h.fuse_
  by_cases hp : 0 < fuse
  · have hb : burn fuse = fuse - 1 := by unfold burn; rw [if_pos hp]
    rw [hb] at hk
    have h1 := h.set_ 2 (.int .i64 (fuse - 1)) (fuse' := fuse - 1) (fails' := fails) rfl (by omega) h.fails_
    have HK := Lib.hid (hk _ h1 ((But.refl O w).setCell (p := ⟨dp, 2, none⟩) (.inl h.dpO) _))
    have hw : IntKind.i64.wrap (fuse - 1) = fuse - 1 := by rw [IntKind.wrap_i64]; omega
    clear h hk hb h1 hfb
    go_enter Try.func36, Try.ntmps36
    go_wp2_with fail
    refine HK.out.mono ?_
    rintro e w' ⟨x, rfl, hR⟩
    have HR := Lib.hid hR
    clear hR HK
    go_wp2
    go_ret
    exact ⟨x, rfl, HR.out⟩
  · have hb : burn fuse = fuse := by unfold burn; rw [if_neg hp]
    rw [hb] at hk
    have HK := Lib.hid (hk _ h (But.refl O w))
    clear h hk hb hfb
    go_enter Try.func36, Try.ntmps36
    go_wp2_with fail
    refine HK.out.mono ?_
    rintro e w' ⟨x, rfl, hR⟩
    have HR := Lib.hid hR
    clear hR HK
    go_wp2
    go_ret
    exact ⟨x, rfl, HR.out⟩
end
end Go.Proofs.Ytohiheohndmccaa

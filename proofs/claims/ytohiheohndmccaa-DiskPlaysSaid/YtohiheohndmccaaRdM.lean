/- The reference's disk: Rename. -/
import Derived.Test.YtohiheohndmccaaRdI
namespace Go.Proofs.Ytohiheohndmccaa
open Go.RowKit
open Go.Maps
attribute [local go_sem] Oper.semAt_some

section
variable {w : World} {rp : Nat} {t : St} {O : Nat → Prop} {a : Option Addr} {c : Nat} {es : List REnt}
set_option linter.unusedSimpArgs false in
set_option maxRecDepth 100000 in
set_option maxHeartbeats 6400000 in
/-- Rename, where nothing is renamed. -/
theorem rrename_early (h : RdC w rp t O a c es) (s tn : ByteArray) (hsz : tn.size ≤ maxLen) (hearly : t.fuse = 0 ∨ nmOk tn.data.toList = false ∨ ¬ ridx es s.data.toList < es.length) :
    Calls Try.prog 27 #[.pointer (some ⟨rp, 0, none⟩), .string s, .string tn] w fun e w' => e = .returned (.int .i64 (t.rename s.data.toList tn.data.toList).1) ∧ RMv w rp O (t.rename s.data.toList tn.data.toList).2 w' := by
  by_cases hf : t.fuse = 0
  · have e : t.rename s.data.toList tn.data.toList = (42, t) := by unfold St.rename; rw [if_pos hf]
    rw [e]
    have CD := Lib.hid (rcall_dead h hf)
    have HR := Lib.hid (rowner ⟨a, c, es, h⟩)
    clear h
    go_enter Try.func27, Try.ntmps27
    go_wp2_with fail
    refine CD.out.mono ?_
    rintro e1 w1 ⟨rfl, rfl⟩
    go_wp2
    go_ret
    exact ⟨rfl, HR.out⟩
  have CD := Lib.hid (rcall_do h hf)
  have NM := Lib.hid (rname_any tn hsz)
  have hcap := h.len_
  by_cases hnm : nmOk tn.data.toList = false
  · have e : t.rename s.data.toList tn.data.toList = (1, t.burnt) := by unfold St.rename; rw [if_neg hf, if_pos hnm]
    rw [e]
    rw [hnm] at NM
    clear h e
    go_enter Try.func27, Try.ntmps27
    go_wp2_with fail
    refine CD.out.mono ?_
    rintro e1 w1 ⟨rfl, h1, b1⟩
    have HR := Lib.hid (RMv.then b1 (rowner ⟨a, c, es, h1⟩))
    clear h1 b1 CD
    go_wp2_with fail
    refine (NM.out _).mono ?_
    rintro e1 w2 ⟨rfl, rfl⟩
    go_wp2
    go_ret
    exact ⟨rfl, HR.out⟩
  · have hi := (hearly.resolve_left hf).resolve_left hnm
    have e : t.rename s.data.toList tn.data.toList = (3, t.burnt) := by unfold St.rename; rw [if_neg hf, if_neg hnm, h.gone_ hi]
    have hnm1 : nmOk tn.data.toList = true := by simpa using hnm
    rw [e]
    rw [hnm1] at NM
    clear h e
    go_enter Try.func27, Try.ntmps27
    go_wp2_with fail
    refine CD.out.mono ?_
    rintro e1 w1 ⟨rfl, h1, b1⟩
    have AT := rat_any h1 s
    unfold ratI at AT
    rw [if_neg hi] at AT
    have AT := Lib.hid AT
    have HR := Lib.hid (RMv.then b1 (rowner ⟨a, c, es, h1⟩))
    clear h1 b1 CD
    go_wp2_with fail
    refine (NM.out _).mono ?_
    rintro e1 w2 ⟨rfl, rfl⟩
    go_wp2_with fail
    refine AT.out.mono ?_
    rintro e1 w2 ⟨rfl, rfl⟩
    go_wp2
    go_ret
    exact ⟨rfl, HR.out⟩
end
end Go.Proofs.Ytohiheohndmccaa

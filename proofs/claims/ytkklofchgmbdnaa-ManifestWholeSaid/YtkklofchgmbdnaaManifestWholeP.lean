/- Of any room (of at most 255), any two rows of numbers and of numbers to keep (of at most 900 each; else the law asks nothing more), any fuse, with or without a Sync that fails: however the second Swap ends, and whatever the Crash leaves, Load tells the first list or the second one, with OK the second one; behind a Crash the second one can be swapped in, if it is right and there is room for it; the arguments read behind the call as before. Conditions: none. (The walk is in the text YtkklofchgmbdnaaManifestWholeW; this is the frame that lifts it to the given statement.) -/
import Derived.Test.YtkklofchgmbdnaaRows
import Derived.WalkKit
import Derived.ProofKit
import Derived.OpenShut
import Derived.ShutString
import Derived.ChangeOld
import Derived.SizedLaws
import Derived.Below
import Derived.Test.YtkklofchgmbdnaaManifestWholeW
import Derived.Test.YtkklofchgmbdnaaOpenO
import Derived.Test.YtkklofchgmbdnaaOpenI
namespace Go.Proofs.Ytkklofchgmbdnaa.manifestWhole
open Go.ChangeShapes Go.WideShapes Go.ChangeAt Go.RowKit
open Go.ChangeMaps (open_string shut_string)
set_option linter.unusedVariables false

theorem own : ownKnob Try.prog.godebug = none := by kernel_rfl
theorem laidOut : laidOutB Try.prog = true := by kernel_rfl

theorem walk (a0 : Int) (a1 : Option Addr) (len1 cap1 : Nat) (ks1 : List Int) (a2 : Option Addr) (len2 cap2 : Nat) (ks2 : List Int) (a3 : Int) (a4 : Bool) (a5 : Option Addr) (len5 cap5 : Nat) (ks5 : List Int) (w : World) (w0 : (Lit.int .u8 a0).wf = true) (w1 : Row w w.heap.size a1 len1 cap1 1 (intsC ks1)) (e1 : ks1.length = len1) (n1 : a1 = none → len1 = 0 ∧ cap1 = 0) (u1 : ∀ k ∈ ks1, -9223372036854775808 ≤ k ∧ k ≤ 9223372036854775807) (w2 : Row w w.heap.size a2 len2 cap2 1 (intsC ks2)) (e2 : ks2.length = len2) (n2 : a2 = none → len2 = 0 ∧ cap2 = 0) (u2 : ∀ k ∈ ks2, -9223372036854775808 ≤ k ∧ k ≤ 9223372036854775807) (w3 : (Lit.int .u8 a3).wf = true) (w5 : Row w w.heap.size a5 len5 cap5 1 (intsC ks5)) (e5 : ks5.length = len5) (u5 : ∀ k ∈ ks5, -9223372036854775808 ≤ k ∧ k ≤ 9223372036854775807) :
    Calls Try.prog 6 #[.int .u8 a0, .slice a1 len1 cap1, .slice a2 len2 cap2, .int .u8 a3, .bool a4, .slice a5 len5 cap5] w fun e w' => e = .returned (.bool true) ∧ Below w.heap.size w w' := by
  have h0 := bounds_u8 w0
  have h3 := bounds_u8 w3
  obtain ⟨p, rfl⟩ := Int.eq_ofNat_of_zero_le h0.1
  obtain ⟨q, rfl⟩ := Int.eq_ofNat_of_zero_le h3.1
  exact manifestWhole_walk p (by omega) ks1 a1 len1 cap1 ks2 a2 len2 cap2 q (by omega) a4 ks5 a5 len5 cap5 w w1 e1 w2 e2 w5 e5

set_option maxRecDepth 100000 in
theorem lifted (os : Os) (started : os.Started) (H : Type) (enc : TypeId × Value → H) :
    ReturnsInHanded {} Try.checked os 6 .any (Rows.manifestWholeSpec.pre6 enc Try.prog Try.f6 Rows.manifestWholeRow.domain false) (Rows.manifestWholeSpec.post enc Try.prog Try.f6 false true false false) := by
  refine returnsInHanded_of_change_sized (C := Try.checked) own started (by kernel_rfl) Try.func6
    (ChangeSpec.witness6 (enc := enc) (C := Try.checked) false ⟨#[], #[.int .u8 0, .slice none 0 0, .slice none 0 0, .int .u8 0, .bool false, .slice none 0 0], []⟩ 8 (by kernel_rfl) (by kernel_rfl) (by kernel_rfl) (by kernel_rfl)) ?_
  intro W base args ds gs before hval0 hW hcnd hsz _
  have hval : ∀ (j : Nat) t v, Try.f6.params[j]? = some t → args[j]? = some v → Value.okWide Try.prog W .any base t v := hval0
  have hW' := hW
  obtain ⟨p, q, hA0, hV, rfl, hfz, hnd⟩ := hW
  have hA : DataW.TrodAll enc Try.prog W 0 (fun _ => true) true Try.f6.params.toList args.toList ds p := hA0
  rw [Try.params6] at hA hval
  obtain ⟨v0, vs0, d0, ds0, p0, q0, hargs, rfl, rfl, h0, r0⟩ := trodAll_cons hA
  obtain ⟨v1, vs1, d1, ds1, p1, q1, rfl, rfl, rfl, h1, r1⟩ := trodAll_cons r0
  obtain ⟨v2, vs2, d2, ds2, p2, q2, rfl, rfl, rfl, h2, r2⟩ := trodAll_cons r1
  obtain ⟨v3, vs3, d3, ds3, p3, q3, rfl, rfl, rfl, h3, r3⟩ := trodAll_cons r2
  obtain ⟨v4, vs4, d4, ds4, p4, q4, rfl, rfl, rfl, h4, r4⟩ := trodAll_cons r3
  obtain ⟨v5, vs5, d5, ds5, p5, q5, rfl, rfl, rfl, h5, r5⟩ := trodAll_cons r4
  obtain ⟨rfl, rfl, rfl⟩ := trodAll_nil r5
  obtain rfl : args = #[v0, v1, v2, v3, v4, v5] := by cases args; simp_all
  obtain ⟨rfl, rfl⟩ := trodVars_none hV
  obtain ⟨a0, rfl, rfl, rfl, w0⟩ := open_int Try.underlying5 (hval 0 5 v0 rfl rfl) h0
  have k1 := h1
  have lt1 : ∀ x ∈ p1, x.block < W.heap.size := by obtain ⟨m, hm⟩ := k1; exact DataW.trod_lt m _ _ _ hm
  obtain ⟨a1, cap1, ks1, rfl, w1, n1, u1⟩ := open_longs1 (hval 1 44 v1 rfl rfl) h1
  have k2 := h2
  have lt2 : ∀ x ∈ p2, x.block < W.heap.size := by obtain ⟨m, hm⟩ := k2; exact DataW.trod_lt m _ _ _ hm
  obtain ⟨a2, cap2, ks2, rfl, w2, n2, u2⟩ := open_longs1 (hval 2 44 v2 rfl rfl) h2
  obtain ⟨a3, rfl, rfl, rfl, w3⟩ := open_int Try.underlying5 (hval 3 5 v3 rfl rfl) h3
  obtain ⟨a4, rfl, rfl, rfl⟩ := open_bool Try.underlying4 (hval 4 4 v4 rfl rfl) h4
  have k5 := h5
  have lt5 : ∀ x ∈ p5, x.block < W.heap.size := by obtain ⟨m, hm⟩ := k5; exact DataW.trod_lt m _ _ _ hm
  obtain ⟨a5, cap5, ks5, rfl, w5, u5⟩ := open_ints1 (hval 5 32 v5 rfl rfl) h5
  clear hA0 hval0
  refine (walk a0 a1 _ cap1 ks1 a2 _ cap2 ks2 a3 a4 a5 _ cap5 ks5 W w0 w1 rfl n1 u1 w2 rfl n2 u2 w3 w5 rfl u5).mono fun e W' ⟨he, bel⟩ => ?_
  subst he
  exact ⟨_, rfl, _, _, _, [], _, [], hW', trodAll_mk1 (shut_bool Try.underlying4 _), (trodAll_cons_mk (shut_int Try.underlying5 w0) (trodAll_cons_mk (Below.trod laidOut (by kernel_rfl) (of_decide_eq_true (by kernel_rfl)) k1 bel lt1) (trodAll_cons_mk (Below.trod laidOut (by kernel_rfl) (of_decide_eq_true (by kernel_rfl)) k2 bel lt2) (trodAll_cons_mk (shut_int Try.underlying5 w3) (trodAll_cons_mk (shut_bool Try.underlying4 _) (trodAll_cons_mk (Below.trod laidOut (by kernel_rfl) (of_decide_eq_true (by kernel_rfl)) k5 bel lt5) trodAll_mk0)))))), rfl, bel.frame _, fun h => by cases h⟩

theorem over : Rows.manifestWholeRow.holds Try.pinned (OpenSpec.ofChange Rows.manifestWholeSpec) :=
  OpenClaim.holds_of_wide 6 Try.f6 rfl rfl rfl rfl rfl rfl rfl ⟨rfl, rfl, rfl, rfl, rfl⟩ rfl rfl rfl rfl rfl (by kernel_rfl) Try.func6 (by kernel_rfl)
    (of_decide_eq_true (by kernel_rfl)) (by unfold Func.isWrapper; first | (rw [if_pos (by decide +kernel)]; kernel_rfl) | (rw [if_neg (by decide +kernel)]; exact ⟨rfl, rfl⟩))
    (fun os started H enc _ => lifted os started H enc)

theorem proved : Rows.ManifestWholeSaid := over
#print axioms proved
end Go.Proofs.Ytkklofchgmbdnaa.manifestWhole

/- Of a disk of any room, any operations on it, any list of numbers and any operations behind that (where there are at most 300 of either, not too much in them, and at most 900 numbers; else the law asks only whether there is a disk): what Swap and Load tell, the list of files, all files' bytes, what each further operation answers, and how many of the manifest's bytes last, are the document's; the arguments read behind the call as before. Conditions: none. (The walk is in the text YtohiheohndmccaaGreatManifestSwapsW; this is the frame that lifts it to the given statement.) -/
import Derived.Test.YtohiheohndmccaaGreatRows
import Derived.WalkKit
import Derived.ProofKit
import Derived.OpenShut
import Derived.ShutString
import Derived.ChangeOld
import Derived.SizedLaws
import Derived.Below
import Derived.Test.YtohiheohndmccaaGreatManifestSwapsW
import Derived.Test.YtohiheohndmccaaGreatOpenO
import Derived.Test.YtohiheohndmccaaGreatOpenI
namespace Go.Proofs.YtohiheohndmccaaGreat.manifestSwaps
open Go.ChangeShapes Go.WideShapes Go.ChangeAt Go.RowKit
open Go.ChangeMaps (open_string shut_string)
set_option linter.unusedVariables false

theorem own : ownKnob Tryz.prog.godebug = none := by kernel_rfl
theorem laidOut : laidOutB Tryz.prog = true := by kernel_rfl

theorem walk (a0 : Int) (a1 : Option Addr) (len1 cap1 : Nat) (l1 : List OpV) (a2 : Option Addr) (len2 cap2 : Nat) (ks2 : List Int) (a3 : Option Addr) (len3 cap3 : Nat) (l3 : List OpV) (w : World) (w0 : (Lit.int .i64 a0).wf = true) (w1 : OpsIn w w.heap.size a1 len1 cap1 l1) (z1 : len1 ≤ 140737488351232) (w2 : Row w w.heap.size a2 len2 cap2 1 (intsC ks2)) (e2 : ks2.length = len2) (n2 : a2 = none → len2 = 0 ∧ cap2 = 0) (u2 : ∀ k ∈ ks2, -9223372036854775808 ≤ k ∧ k ≤ 9223372036854775807) (w3 : OpsIn w w.heap.size a3 len3 cap3 l3) (z3 : len3 ≤ 140737488351232) :
    Calls Tryz.prog 3 #[.int .i64 a0, .slice a1 len1 cap1, .slice a2 len2 cap2, .slice a3 len3 cap3] w fun e w' => e = .returned (.bool true) ∧ Below w.heap.size w w' := by
  exact manifestSwaps_walk a0 a1 _ cap1 l1 a2 _ cap2 ks2 a3 _ cap3 l3 w w1 z1 w2 e2 w3 z3

set_option maxRecDepth 100000 in
theorem lifted (os : Os) (started : os.Started) (H : Type) (enc : TypeId × Value → H) :
    ReturnsInHanded {} Tryz.checked os 3 .any (Rows.manifestSwapsSpec.pre6 enc Tryz.prog Tryz.f3 Rows.manifestSwapsRow.domain false) (Rows.manifestSwapsSpec.post enc Tryz.prog Tryz.f3 false true false false) := by
  refine returnsInHanded_of_change_sized (C := Tryz.checked) own started (by kernel_rfl) Tryz.func3
    (ChangeSpec.witness6 (enc := enc) (C := Tryz.checked) false ⟨#[], #[.int .i64 0, .slice none 0 0, .slice none 0 0, .slice none 0 0], []⟩ 8 (by kernel_rfl) (by kernel_rfl) (by kernel_rfl) (by kernel_rfl)) ?_
  intro W base args ds gs before hval0 hW hcnd hsz _
  have hval : ∀ (j : Nat) t v, Tryz.f3.params[j]? = some t → args[j]? = some v → Value.okWide Tryz.prog W .any base t v := hval0
  have hW' := hW
  obtain ⟨p, q, hA0, hV, rfl, hfz, hnd⟩ := hW
  have hA : DataW.TrodAll enc Tryz.prog W 0 (fun _ => true) true Tryz.f3.params.toList args.toList ds p := hA0
  rw [Tryz.params3] at hA hval
  obtain ⟨v0, vs0, d0, ds0, p0, q0, hargs, rfl, rfl, h0, r0⟩ := trodAll_cons hA
  obtain ⟨v1, vs1, d1, ds1, p1, q1, rfl, rfl, rfl, h1, r1⟩ := trodAll_cons r0
  obtain ⟨v2, vs2, d2, ds2, p2, q2, rfl, rfl, rfl, h2, r2⟩ := trodAll_cons r1
  obtain ⟨v3, vs3, d3, ds3, p3, q3, rfl, rfl, rfl, h3, r3⟩ := trodAll_cons r2
  obtain ⟨rfl, rfl, rfl⟩ := trodAll_nil r3
  obtain rfl : args = #[v0, v1, v2, v3] := by cases args; simp_all
  obtain ⟨rfl, rfl⟩ := trodVars_none hV
  obtain ⟨a0, rfl, rfl, rfl, w0⟩ := open_int Tryz.underlying3 (hval 0 3 v0 rfl rfl) h0
  have k1 := h1
  have lt1 : ∀ x ∈ p1, x.block < W.heap.size := by obtain ⟨m, hm⟩ := k1; exact DataW.trod_lt m _ _ _ hm
  obtain ⟨a1, cap1, l1, rfl, w1, z1⟩ := open_ops (hval 1 22 v1 rfl rfl) h1 (fun m hm => by have := List.all_eq_true.1 hsz m (DataW.weights_mem_each (ts := Tryz.f3.params.toList ++ _) (j := 1) (t := 22) rfl rfl m hm); simpa using this)
  have k2 := h2
  have lt2 : ∀ x ∈ p2, x.block < W.heap.size := by obtain ⟨m, hm⟩ := k2; exact DataW.trod_lt m _ _ _ hm
  obtain ⟨a2, cap2, ks2, rfl, w2, n2, u2⟩ := open_longs1 (hval 2 23 v2 rfl rfl) h2
  have k3 := h3
  have lt3 : ∀ x ∈ p3, x.block < W.heap.size := by obtain ⟨m, hm⟩ := k3; exact DataW.trod_lt m _ _ _ hm
  obtain ⟨a3, cap3, l3, rfl, w3, z3⟩ := open_ops (hval 3 22 v3 rfl rfl) h3 (fun m hm => by have := List.all_eq_true.1 hsz m (DataW.weights_mem_each (ts := Tryz.f3.params.toList ++ _) (j := 3) (t := 22) rfl rfl m hm); simpa using this)
  clear hA0 hval0
  refine (walk a0 a1 _ cap1 l1 a2 _ cap2 ks2 a3 _ cap3 l3 W w0 w1 z1 w2 rfl n2 u2 w3 z3).mono fun e W' ⟨he, bel⟩ => ?_
  subst he
  exact ⟨_, rfl, _, _, _, [], _, [], hW', trodAll_mk1 (shut_bool Tryz.underlying4 _), (trodAll_cons_mk (shut_int Tryz.underlying3 w0) (trodAll_cons_mk (Below.trod laidOut (by kernel_rfl) (of_decide_eq_true (by kernel_rfl)) k1 bel lt1) (trodAll_cons_mk (Below.trod laidOut (by kernel_rfl) (of_decide_eq_true (by kernel_rfl)) k2 bel lt2) (trodAll_cons_mk (Below.trod laidOut (by kernel_rfl) (of_decide_eq_true (by kernel_rfl)) k3 bel lt3) trodAll_mk0)))), rfl, bel.frame _, fun h => by cases h⟩

theorem over : Rows.manifestSwapsRow.holds Tryz.pinned (OpenSpec.ofChange Rows.manifestSwapsSpec) :=
  OpenClaim.holds_of_wide 3 Tryz.f3 rfl rfl rfl rfl rfl rfl rfl ⟨rfl, rfl, rfl, rfl, rfl⟩ rfl rfl rfl rfl rfl (by kernel_rfl) Tryz.func3 (by kernel_rfl)
    (of_decide_eq_true (by kernel_rfl)) (by unfold Func.isWrapper; first | (rw [if_pos (by decide +kernel)]; kernel_rfl) | (rw [if_neg (by decide +kernel)]; exact ⟨rfl, rfl⟩))
    (fun os started H enc _ => lifted os started H enc)

theorem proved : Rows.ManifestSwapsSaid := over
#print axioms proved
end Go.Proofs.YtohiheohndmccaaGreat.manifestSwaps

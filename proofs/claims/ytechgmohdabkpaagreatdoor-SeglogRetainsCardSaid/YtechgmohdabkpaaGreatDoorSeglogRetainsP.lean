/- Retain of a log takes whole segments, the oldest first, and no frame from its number on; what is left is as it was. Conditions: none. (The walk is in the text YtechgmohdabkpaaGreatDoorSeglogRetainsW; this is the frame that lifts it to the given statement.) -/
import Derived.Test.YtechgmohdabkpaaGreatDoorRows
import Derived.Test.YtechgmohdabkpaaGreatDoorCards
import Derived.Test.YtechgmohdabkpaaGreatDoorTie
import Derived.WalkKit
import Derived.ProofKit
import Derived.OpenShut
import Derived.ShutString
import Derived.ChangeOld
import Derived.Below
import Derived.LaidMore
import Derived.Stop.Joined
import Derived.SevenTiedAt
import Derived.Test.YtechgmohdabkpaaGreatDoorCka
import Derived.Test.YtechgmohdabkpaaGreatDoorCkb
import Derived.Test.YtechgmohdabkpaaGreatDoorCkc
import Derived.Test.YtechgmohdabkpaaGreatDoorCkd
import Derived.Test.YtechgmohdabkpaaGreatDoorCke
import Derived.Test.YtechgmohdabkpaaGreatDoorCkf
import Derived.Test.YtechgmohdabkpaaGreatDoorCkg
import Derived.Test.YtechgmohdabkpaaGreatDoorCkh
import Derived.Test.YtechgmohdabkpaaGreatDoorCki
import Derived.Test.YtechgmohdabkpaaGreatDoorCkj
import Derived.Test.YtechgmohdabkpaaGreatDoorCkk
import Derived.Test.YtechgmohdabkpaaGreatDoorCkl
import Derived.Test.YtechgmohdabkpaaGreatDoorCkm
import Derived.Test.YtechgmohdabkpaaGreatDoorSeglogRetainsV
namespace Go.Proofs.YtechgmohdabkpaaGreatDoor.seglogRetains
open Go.ChangeShapes Go.WideShapes Go.ChangeAt Go.RowKit
open Go.ChangeMaps (open_string shut_string)
set_option linter.unusedVariables false

theorem own : ownKnob Tryz.prog.godebug = none := by kernel_rfl
theorem laidOut : laidOutB Tryz.prog = true := by kernel_rfl

theorem walk (a0 : Int) (a1 : Option Addr) (len1 cap1 : Nat) (b1 : List (List Nat)) (a2 : Int) (w : World) (hL : Laid w) (w0 : (Lit.int .u8 a0).wf = true) (w1 : Sls w w.heap.size a1 len1 cap1 b1) (w2 : (Lit.int .i64 a2).wf = true) :
    Calls Tryz.prog 5 #[.int .u8 a0, .slice a1 len1 cap1, .int .i64 a2] w fun e w' => e = .returned (.bool true) ∧ Below w.heap.size w w' := by
  exact seglogRetains_walk ⟨(bounds_u8 w0).1, (bounds_u8 w0).2⟩ hL w1

set_option maxRecDepth 100000 in
theorem lifted (os : Os) (started : os.Started) (H : Type) (enc : TypeId × Value → H) :
    ReturnsInHanded {} Tryz.checked os 5 .any (fun w args => (Rows.seglogRetainsSpec.pre enc Tryz.prog Tryz.f5 [] false w args ∧ laidMetH Tryz.prog laidL w) ∧ sizedMet enc Tryz.prog Tryz.f5 (OpenSpec.ofChange Rows.seglogRetainsSpec) false w args) (Rows.seglogRetainsSpec.post enc Tryz.prog Tryz.f5 false true false false) := by
  refine returnsInHanded_of_change_and (C := Tryz.checked) (X := fun w _ => laidMetH Tryz.prog laidL w) (fun _ _ _ hh h => h.of_heap hh) own started (by kernel_rfl) Tryz.func5
    (ChangeSpec.witness_shaped (enc := enc) (C := Tryz.checked) (os := os) (X := fun w _ => laidMetH Tryz.prog laidL w) false (World.doorLaid Tryz.prog 400 os) #[.int .u8 0, .slice none 0 0, .int .i64 0] 8 rfl (World.shaped_of_RefB (by kernel_rfl) (by kernel_rfl)) (by kernel_rfl) (by kernel_rfl) (by kernel_rfl) (door_met os _)) ?_
  intro W base args ds gs before hval0 hW _ _ hL _
  have hval : ∀ (j : Nat) t v, Tryz.f5.params[j]? = some t → args[j]? = some v → Value.okWide Tryz.prog W .any base t v := hval0
  have hW' := hW
  obtain ⟨p, q, hA0, hV, rfl, hfz, hnd⟩ := hW
  have hA : DataW.TrodAll enc Tryz.prog W 0 (fun _ => true) true Tryz.f5.params.toList args.toList ds p := hA0
  rw [Tryz.params5] at hA hval
  obtain ⟨v0, vs0, d0, ds0, p0, q0, hargs, rfl, rfl, h0, r0⟩ := trodAll_cons hA
  obtain ⟨v1, vs1, d1, ds1, p1, q1, rfl, rfl, rfl, h1, r1⟩ := trodAll_cons r0
  obtain ⟨v2, vs2, d2, ds2, p2, q2, rfl, rfl, rfl, h2, r2⟩ := trodAll_cons r1
  obtain ⟨rfl, rfl, rfl⟩ := trodAll_nil r2
  obtain rfl : args = #[v0, v1, v2] := by cases args; simp_all
  obtain ⟨rfl, rfl⟩ := trodVars_none hV
  obtain ⟨a0, rfl, rfl, rfl, w0⟩ := open_int Tryz.underlying5 (hval 0 5 v0 rfl rfl) h0
  have k1 := h1
  have lt1 : ∀ x ∈ p1, x.block < W.heap.size := by obtain ⟨m, hm⟩ := k1; exact DataW.trod_lt m _ _ _ hm
  obtain ⟨a1, cap1, b1, rfl, w1⟩ := open_rows (hval 1 60 v1 rfl rfl) h1
  obtain ⟨a2, rfl, rfl, rfl, w2⟩ := open_int Tryz.underlying2 (hval 2 2 v2 rfl rfl) h2
  clear hA0 hval0
  refine (walk a0 a1 _ cap1 b1 a2 W (laid_of hL) w0 w1 w2).mono fun e W' ⟨he, bel⟩ => ?_
  subst he
  exact ⟨_, rfl, _, _, _, [], _, [], hW', trodAll_mk1 (shut_bool Tryz.underlying4 _), (trodAll_cons_mk (shut_int Tryz.underlying5 w0) (trodAll_cons_mk (Below.trod laidOut (by kernel_rfl) (of_decide_eq_true (by kernel_rfl)) k1 bel lt1) (trodAll_cons_mk (shut_int Tryz.underlying2 w2) trodAll_mk0))), rfl, bel.frame _, fun h => by cases h⟩

theorem over : Rows.seglogRetainsRow.holds Tryz.pinned (OpenSpec.ofChange Rows.seglogRetainsSpec) :=
  OpenClaim.holds_of_wide 5 Tryz.f5 rfl rfl rfl rfl rfl rfl rfl ⟨rfl, rfl, rfl, rfl, rfl⟩ rfl rfl rfl rfl rfl (by kernel_rfl) Tryz.func5 (by kernel_rfl)
    (of_decide_eq_true (by kernel_rfl)) (by unfold Func.isWrapper; first | (rw [if_pos (by decide +kernel)]; kernel_rfl) | (rw [if_neg (by decide +kernel)]; exact ⟨rfl, rfl⟩))
    (fun os started H enc _ => lifted os started H enc)

theorem card : Claim7.holds Tryz.pinned (.plain (OpenSpec.ofChange Rows.seglogRetainsSpec)) Rows.seglogRetainsCard :=
  Claim7.holds_tied_plain_at .later [] [.data, .data, .data, .sentinel, .sentinel] true (true, "4039630f333ef7e6793dc0e5d1d6470062d0023496d0619ea42fd02ecb5c9ebc") true
    over (fun _ h => by cases h) (by kernel_rfl) (fun _ h => by cases h) seglogRetains_row_tie rfl ⟨rfl, rfl⟩ (by kernel_rfl) rfl
    (fun f fn hf hfn => by
      obtain rfl : f = 5 := Option.some.inj ((show Tryz.prog.funcNamed "governor/governorlaw06.SeglogRetains" = some 5 by kernel_rfl).symm.trans hf) |>.symm
      obtain rfl : fn = Tryz.f5 := (Option.some.inj (Tryz.func5.symm.trans hfn)).symm
      refine ⟨by kernel_rfl, fun j t ht => ?_⟩
      rw [Tryz.params5] at ht
      rcases j with _ | _ | _ | j
      · obtain rfl : t = 5 := by simpa using ht.symm
        exact (show Tryz.prog.wantsStandIn 5 = false by kernel_rfl)
      · obtain rfl : t = 60 := by simpa using ht.symm
        exact (show Tryz.prog.wantsStandIn 60 = false by kernel_rfl)
      · obtain rfl : t = 2 := by simpa using ht.symm
        exact (show Tryz.prog.wantsStandIn 2 = false by kernel_rfl)
      · simp at ht)
    (by kernel_rfl)
theorem proved : Rows.SeglogRetainsCardSaid := card
#print axioms proved
end Go.Proofs.YtechgmohdabkpaaGreatDoor.seglogRetains

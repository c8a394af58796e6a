/- The reference's SameSpots. -/
import Derived.Test.YtiiellclnmakpaaDoorSgX
namespace Go.Proofs.YtiiellclnmakpaaDoor
open Go.RowKit Go.Shelf
open Crc Frm

theorem take_same {α : Type} {fs gs : List α} {k : Nat} {f g : α} (hf : fs[k]? = some f) (hg : gs[k]? = some g) (h : fs.take k = gs.take k) (e : f = g) : fs.take (k + 1) = gs.take (k + 1) := by
  rw [List.take_add_one, List.take_add_one, h, hf, hg, e]
set_option maxHeartbeats 1600000 in
theorem spots_any (a : Option Addr) (la ca : Nat) (fs : List (Int × Int)) (b : Option Addr) (lb cb : Nat) (gs : List (Int × Int)) (w : World) (ha : Spts w w.heap.size a la ca fs) (hb : Spts w w.heap.size b lb cb gs) :
    Calls Tryd.prog 17 #[.slice a la ca, .slice b lb cb] w fun e w' => e = .returned (.bool (decide (fs = gs))) ∧ Below w.heap.size w w' := by
  have hla := ha.length
  have hlb := hb.length
  have hma := ha.le
  have hmx := ha.max
  unfold maxLen at hmx
  by_cases hl : la = lb
  · subst hl
    have hl' : ((la : Int) != (la : Int)) = false := by simp
    go_enter Tryd.func17, Tryd.ntmps17
    go_wp2_with fail
    go_loopw [5] (fun i wx => ∃ k : Nat, k ≤ la ∧ i = .int .i64 (k : Int) ∧ fs.take k = gs.take k ∧ Below w.heap.size w wx) (fun i _ => la - (intOf i).toNat)
    case atStart => exact ⟨0, by omega, rfl, by simp, Below.refl _ _⟩
    case round =>
      obtain ⟨k, hk, rfl, hpre, hB⟩ := hrel
      by_cases hlt : k < la
      · have hf : fs[k]? = some fs[k] := List.getElem?_eq_getElem (by omega)
        have hg : gs[k]? = some gs[k] := List.getElem?_eq_getElem (by omega)
        obtain ⟨b1, o1, rfl, hb1, hc1⟩ := (ha.below hB (Nat.le_refl _)).at_ (by omega)
        obtain ⟨b2, o2, rfl, hb2, hc2⟩ := (hb.below hB (Nat.le_refl _)).at_ (by omega)
        obtain ⟨x0, x1⟩ := hc1 k _ hf
        obtain ⟨y0, y1⟩ := hc2 k _ hg
        obtain ⟨f, hff⟩ : ∃ f, f = fs[k] := ⟨_, rfl⟩
        obtain ⟨g, hgg⟩ : ∃ g, g = gs[k] := ⟨_, rfl⟩
        rw [← hff] at hf x0 x1
        rw [← hgg] at hg y0 y1
        obtain ⟨f1, f2⟩ := f
        obtain ⟨g1, g2⟩ := g
        have i0 : (0 : Int) ≤ (k : Int) := by omega
        have i1 : (k : Int) < (la : Int) := by omega
        have H := Lib.hid (And.intro hf (And.intro hg (And.intro hpre hB)))
        clear hc1 hc2 hff hgg hf hg hpre hB
        by_cases h1 : f1 = g1
        · by_cases h2 : f2 = g2
          · subst h1
            subst h2
            go_wp2_with fail
            go_quiet (fail)
            go_wp2_with fail
            go_roundw
            case rel => exact ⟨k + 1, by omega, by go_num, take_same H.out.1 H.out.2.1 H.out.2.2.1 rfl, below_drewN H.out.2.2.2⟩
            case measure => simp [intOf]; omega
          · have e2 : (f2 == g2) = false := by simpa using h2
            have hne : ¬ fs = gs := fun e => by
              have := H.out.1
              rw [e, H.out.2.1] at this
              simp at this
              exact h2 this.2.symm
            have Hn := Lib.hid hne
            clear h2 hne
            go_wp2_with fail
            go_quiet (fail)
            go_wp2_with fail
            go_ret
            exact ⟨ret_bool (decide_eq_false Hn.out).symm, below_drewN H.out.2.2.2⟩
        · have e1 : (f1 == g1) = false := by simpa using h1
          have hne : ¬ fs = gs := fun e => by
            have := H.out.1
            rw [e, H.out.2.1] at this
            simp at this
            exact h1 this.1.symm
          have Hn := Lib.hid hne
          clear h1 hne
          go_wp2_with fail
          go_quiet (fail)
          go_wp2_with fail
          go_ret
          exact ⟨ret_bool (decide_eq_false Hn.out).symm, below_drewN H.out.2.2.2⟩
      · have hkl : k = la := by omega
        subst hkl
        have he : fs = gs := by rw [List.take_of_length_le (by omega), List.take_of_length_le (by omega)] at hpre; exact hpre
        have H := Lib.hid (And.intro he hB)
        clear hpre he hB
        go_wp2_with fail
        go_ret
        exact ⟨ret_bool (decide_eq_true H.out.1).symm, H.out.2⟩
  · have hl' : ((la : Int) != (lb : Int)) = true := by simp; omega
    have hne : ¬ fs = gs := fun e => by subst e; omega
    have Hn := Lib.hid hne
    clear hne
    go_enter Tryd.func17, Tryd.ntmps17
    go_wp2_with fail
    go_ret
    exact ⟨ret_bool (decide_eq_false Hn.out).symm, Below.refl _ _⟩
end Go.Proofs.YtiiellclnmakpaaDoor

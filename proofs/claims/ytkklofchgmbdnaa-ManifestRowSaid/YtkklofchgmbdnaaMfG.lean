/- Contracts of the program's manifest: Swap. -/
import Derived.Test.YtkklofchgmbdnaaMfF
namespace Go.Proofs.Ytkklofchgmbdnaa
open Go.RowKit Go.Sort
open Crc Frm
attribute [local go_sem] Oper.semAt_some

/-- What the four calls leave, one behind the other, and what they tell. -/
def mSt (t : St) (l : List Int) : Nat → St
  | 0 => t
  | 1 => (delNext t).2
  | 2 => ((delNext t).2.write nxL (mPut l)).2
  | 3 => (((delNext t).2.write nxL (mPut l)).2.sync nxL).2
  | _ => ((((delNext t).2.write nxL (mPut l)).2.sync nxL).2.rename nxL mfL).2
def mAns (t : St) (l : List Int) : Nat → Int
  | 0 => (delNext t).1
  | 1 => ((mSt t l 1).write nxL (mPut l)).1
  | 2 => ((mSt t l 2).sync nxL).1
  | _ => ((mSt t l 3).rename nxL mfL).1
def mTurn (t : St) (l : List Int) : Int × St :=
  if mAns t l 0 ≠ 0 then (mAns t l 0, mSt t l 1) else if mAns t l 1 ≠ 0 then (mAns t l 1, mSt t l 2) else if mAns t l 2 ≠ 0 then (mAns t l 2, mSt t l 3) else (mAns t l 3, mSt t l 4)
/-- What Swap tells and leaves. -/
def mSwap (t : St) (l : List Int) : Int × St := if mOk l = true then ((mTurn t l).1, mClean (mTurn t l).1 (mTurn t l).2) else (1, t)
theorem turn_stop (t : St) (l : List Int) (k : Nat) (hk : k < 4) (h0 : ∀ j, j < k → mAns t l j = 0) (h1 : mAns t l k ≠ 0) : mTurn t l = (mAns t l k, mSt t l (k + 1)) := by
  unfold mTurn
  match k, hk with
  | 0, _ => rw [if_pos h1]
  | 1, _ => rw [if_neg (by simp [h0 0 (by omega)]), if_pos h1]
  | 2, _ => rw [if_neg (by simp [h0 0 (by omega)]), if_neg (by simp [h0 1 (by omega)]), if_pos h1]
  | 3, _ => rw [if_neg (by simp [h0 0 (by omega)]), if_neg (by simp [h0 1 (by omega)]), if_neg (by simp [h0 2 (by omega)])]
theorem turn_end (t : St) (l : List Int) (h0 : ∀ j, j < 4 → mAns t l j = 0) : mTurn t l = (0, mSt t l 4) := by
  unfold mTurn
  rw [if_neg (by simp [h0 0 (by omega)]), if_neg (by simp [h0 1 (by omega)]), if_neg (by simp [h0 2 (by omega)]), h0 3 (by omega)]

abbrev swF : Nat → FuncId
  | 0 => 60
  | 1 => 62
  | 2 => 63
  | _ => 64
abbrev swC (bd bl : Nat) : Nat → Array Value
  | 1 => #[.pointer (some ⟨bd, 0, none⟩), .pointer (some ⟨bl, 0, none⟩)]
  | _ => #[.pointer (some ⟨bd, 0, none⟩)]

theorem Mv.then {w0 w w1 w' : World} {dp : Nat} {O O1 : Nat → Prop} {t : St} (hb : But O w w1) (hO : ∀ k, O1 k → O k ∨ w.heap.size ≤ k) (h : Mv w0 w1 dp O1 t w') : Mv w0 w dp O t w' := by
  obtain ⟨O', h1, h2, h3⟩ := h
  exact ⟨O', h1, hb.trans h2 hO, fun k hk => by rcases h3 k hk with h4 | h4; exact hO k h4; exact .inr (Nat.le_trans hb.size h4)⟩

/-- The four calls. -/
theorem swaps_any {w0 w : World} {dp bd bl g : Nat} {t : St} {O : Nat → Prop} (h : DK w0 w dp t O) (l : List Int) (a : Option Addr) (n c : Nat)
    (hd : w.cell? ⟨bd, 0, none⟩ = some (.pointer (some ⟨dp, 0, none⟩))) (hl : w.cell? ⟨bl, 0, none⟩ = some (.slice a n c)) (hr : Row w w.heap.size a n c 1 (intsC l)) (hn : l.length = n)
    (hdO : ¬ O bd) (hlO : ¬ O bl) (hgO : ¬ O g) (hfar : 0 < n → ∀ k o, a = some ⟨k, o, none⟩ → ¬ O k) (hg : ∀ k, k < 4 → w.cell? ⟨g, k, none⟩ = some (.func (.func (swF k)) #[] (swC bd bl k))) :
    Calls Try.prog 59 #[.slice (some ⟨g, 0, none⟩) 4 4] w fun e w' => ∃ x, e = .returned (.int .i64 x) ∧ (x = (mTurn t l).1 ∧ Mv w0 w dp O (mTurn t l).2 w') := by
  have hbd := block_lt_of_cell hd
  have hbl := block_lt_of_cell hl
  have hbg := block_lt_of_cell (hg 0 (by omega))
  have k2 : ∀ x : World, (callFunc 60 #[.pointer (some ⟨bd, 0, none⟩)]).run Try.prog x = .ok (.enter 60 #[.pointer (some ⟨bd, 0, none⟩)]) x := fun x => by kernel_rfl
  have k3 : ∀ x : World, (callFunc 62 #[.pointer (some ⟨bd, 0, none⟩), .pointer (some ⟨bl, 0, none⟩)]).run Try.prog x = .ok (.enter 62 #[.pointer (some ⟨bd, 0, none⟩), .pointer (some ⟨bl, 0, none⟩)]) x := fun x => by kernel_rfl
  have k4 : ∀ x : World, (callFunc 63 #[.pointer (some ⟨bd, 0, none⟩)]).run Try.prog x = .ok (.enter 63 #[.pointer (some ⟨bd, 0, none⟩)]) x := fun x => by kernel_rfl
  have k5 : ∀ x : World, (callFunc 64 #[.pointer (some ⟨bd, 0, none⟩)]).run Try.prog x = .ok (.enter 64 #[.pointer (some ⟨bd, 0, none⟩)]) x := fun x => by kernel_rfl
  refine inturn_any 4 swF (swC bd bl) g w (fun k w' => (∀ j, j < k → mAns t l j = 0) ∧ Mv w0 w dp O (mSt t l k) w') (fun x w' => x = (mTurn t l).1 ∧ Mv w0 w dp O (mTurn t l).2 w') (by omega) ?_ ?_ ?_ ?_ ?_
  · rintro k w' hk ⟨_, O', _, hb, _⟩
    exact (hb.cell hbg hgO).trans (hg k hk)
  · intro k x hk
    match k, hk with
    | 0, _ => exact k2 x
    | 1, _ => exact k3 x
    | 2, _ => exact k4 x
    | 3, _ => exact k5 x
  · rintro k w' hk ⟨h0, hmv⟩
    have hout : ∀ w'', Mv w0 w dp O (mSt t l (k + 1)) w'' → (mAns t l k = 0 → (∀ j, j < k + 1 → mAns t l j = 0) ∧ Mv w0 w dp O (mSt t l (k + 1)) w'') ∧ (mAns t l k ≠ 0 → mAns t l k = (mTurn t l).1 ∧ Mv w0 w dp O (mTurn t l).2 w'') := by
      intro w'' hm
      refine ⟨fun hz => ⟨fun j hj => ?_, hm⟩, fun hz => ?_⟩
      · by_cases hjk : j = k
        · rw [hjk]; exact hz
        · exact h0 j (by omega)
      · rw [turn_stop t l k hk h0 hz]
        exact ⟨rfl, hm⟩
    obtain ⟨O', hk1, hb, hO⟩ := hmv
    have d1 := (hb.cell (o := 0) hbd hdO).trans hd
    have l1 := (hb.cell (o := 0) hbl hlO).trans hl
    have nO : ∀ i, i < w.heap.size → ¬ O i → ¬ O' i := fun i hi hn ho => by rcases hO i ho with h4 | h4; exact hn h4; omega
    match k, hk with
    | 0, _ => exact (sw2_any hk1 d1).mono fun e w'' ⟨he, hm⟩ => ⟨_, he, hout w'' (Mv.then hb hO hm)⟩
    | 1, _ => exact (sw3_any hk1 d1 l a n c l1 (hr.but hb hfar) hn (nO _ hbd hdO) (nO _ hbl hlO)).mono fun e w'' ⟨he, hm⟩ => ⟨_, he, hout w'' (Mv.then hb hO hm)⟩
    | 2, _ => exact (sw4_any hk1 d1).mono fun e w'' ⟨he, hm⟩ => ⟨_, he, hout w'' (Mv.then hb hO hm)⟩
    | 3, _ => exact (sw5_any hk1 d1).mono fun e w'' ⟨he, hm⟩ => ⟨_, he, hout w'' (Mv.then hb hO hm)⟩
  · rintro w' ⟨h0, hm⟩
    rw [turn_end t l h0]
    exact ⟨rfl, hm⟩
  · exact ⟨fun j hj => absurd hj (by omega), O, h, But.refl _ _, fun k hk => .inl hk⟩
end Go.Proofs.Ytkklofchgmbdnaa

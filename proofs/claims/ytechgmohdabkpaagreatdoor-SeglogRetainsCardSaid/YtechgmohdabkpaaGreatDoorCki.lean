/- The program's log: Open. The program's log: Open. The program's log: Open of a wrong size; deletes whatever the errors. The program's log: Retain, from what its Collect tells. A range over a function whose body changes memory: as LgR, what comes being told behind what has come. A region that draws its order, inside a fence: what only reads is taken first; behind those that come last nothing more is asked of the world. The program's log: what behind's closure tells: the names of the segments that go. slices.Collect of names that an iterator tells, whatever memory it reads. The program's log: Retain. Contracts of the program's frame: write. -/
import Derived.Test.YtechgmohdabkpaaGreatDoorCkc
import Derived.Test.YtechgmohdabkpaaGreatDoorCke
import Derived.Test.YtechgmohdabkpaaGreatDoorCkf
import Derived.Test.YtechgmohdabkpaaGreatDoorCkh
import Derived.OrdersIn
import Derived.OrdersHeld
import Derived.StillTail
import Derived.Deep.RegionHeld
import Derived.RangeFuncBound
import Derived.RangeFuncCalls
import Derived.Shelf.Abstract
import Derived.OwnWalkIn
import Derived.TacticsInMore
import Derived.LoopNIn
import Derived.LoopIn
import Derived.Laws.AppendOwn
import Derived.Maps.Range
namespace Go.Proofs.YtechgmohdabkpaaGreatDoor
section
set_option linter.unusedSimpArgs false
set_option linter.unusedVariables false
open Go.RowKit Go.Sort Go.Maps Go.Shelf
open Crc Frm
open Sgn
attribute [local go_sem] Oper.semAt_some

section
variable {w0 w : World} {dp lp size : Nat} {g : Lg} {t : St} {D : Nat → Prop} {sa : Option Addr} {sc : Nat}
set_option linter.unusedSimpArgs false in
set_option maxRecDepth 100000 in
set_option maxHeartbeats 1600000 in
theorem open1_any {bl : Nat} (hd : DK w0 w dp t D) (c0 : w.cell? ⟨lp, 0, none⟩ = some (.pointer (some ⟨dp, 0, none⟩))) (hlp : ¬ D lp) (hl : w.cell? ⟨bl, 0, none⟩ = some (.pointer (some ⟨lp, 0, none⟩))) (hDl : ¬ D bl) :
    Calls Tryz.prog 34 #[.pointer (some ⟨bl, 0, none⟩)] w fun e w' => e = .returned (.int .i64 (thenSt (t.drop fxL) fun t => t.drop nxL).1) ∧ Mv w0 w dp D (thenSt (t.drop fxL) fun t => t.drop nxL).2 w' := by
  have hbl : bl < w.heap.size := block_lt_of_cell hl
  have hlt : lp < w.heap.size := block_lt_of_cell c0
  obtain ⟨r, hr9⟩ : ∃ r, r = thenSt (t.drop fxL) fun t => t.drop nxL := ⟨_, rfl⟩
  obtain ⟨ob, hob⟩ : ∃ ob, ob = Obj.cells #[.string ⟨#[102, 105, 120, 46, 116, 109, 112]⟩, .string ⟨#[109, 97, 110, 105, 102, 101, 115, 116, 46, 116, 109, 112]⟩] 9 := ⟨_, rfl⟩
  have hB3 : Below w.heap.size w (w.alloc ob).drew := ((Below.refl w.heap.size w).alloc (Nat.le_refl _) _).drew
  have hg3 : (w.alloc ob).drew.heap[w.heap.size]? = some (.cells (([fxL, nxL].map fun s => Value.string ⟨s.toArray⟩).toArray) 9 (0, 0)) := by rw [hob]; exact heap_alloc_new w _
  have hc3 := (hB3.cell (p := ⟨lp, 0, none⟩) hlt).trans c0
  have hd3 := hd.on hB3
  obtain ⟨w3, hw3⟩ : ∃ w3, w3 = (w.alloc ob).drew := ⟨_, rfl⟩
  rw [← hw3] at hg3 hc3 hd3
  have DL := deleteThere_any hd3 hc3 hlp [fxL, nxL] w.heap.size 2 rfl (by decide) (0, 0) hg3 (fun h => by have := hd.lt _ h; omega) (by decide)
  rw [there_two, ← hr9] at DL
  rw [hw3] at DL
  have TH := there_any lp w.heap.size 2 (w.alloc ob).drew
  have hb5 := thereW_below (w.alloc ob).drew lp w.heap.size 2
  rw [hob] at DL TH hB3 hb5
  simp only [World.size_alloc, World.size_drew] at DL
  rw [← hr9]
  have TH := Lib.hid TH
  have HD := Lib.hid (And.intro hd (And.intro hlp (And.intro hDl hB3)))
  have DL := Lib.hid DL
  have B5 := Lib.hid (hB3.trans (hb5.mono hB3.size))
  clear hd hr9 hlp hDl hg3 hc3 hd3 hw3 hob
  go_enter Tryz.func34, Tryz.ntmps34
  go_wp2_with fail
  refine wp_region_held_drew (S := fun x => x.cell? ⟨bl, 0, none⟩ = some (.pointer (some ⟨lp, 0, none⟩))) (by kernel_rfl) hl (fun hHeld => ?_)
  refine wpAnyH_take (i := 0) (v := ?_) rfl (by kernel_rfl) (by kernel_rfl) (by kernel_rfl) (fun _ _ _ h => h) (Or.inl ⟨by rfl, ?_⟩) (by assumption) ?_
  rotate_left
  · intro w hSw
    (try dsimp only at hSw)
    go_simp
    all_goals with_reducible rfl
  try simp only [Act.put, List.getElem_toArray, List.getElem_cons_succ, List.getElem_cons_zero, List.setIfInBounds_toArray, List.set_cons_zero, List.set_cons_succ]
  refine wpAnyH_take (i := 1) (v := ?_) rfl (by kernel_rfl) (by kernel_rfl) (by kernel_rfl) (fun _ _ _ h => h) (Or.inl ⟨by rfl, ?_⟩) (by assumption) ?_
  rotate_left
  · intro w hSw
    (try dsimp only at hSw)
    go_simp
    all_goals with_reducible rfl
  try simp only [Act.put, List.getElem_toArray, List.getElem_cons_succ, List.getElem_cons_zero, List.setIfInBounds_toArray, List.set_cons_zero, List.set_cons_succ]
  refine wpAnyH_ready (rs := [2]) (by kernel_rfl) (by simp) ?_
  refine AllReadyH.cons rfl (fun K hK => ?_) AllReadyH.nil
  rw [if_pos (by rfl)]
  go_simp
  refine hK.out _ _ ?_ (fun hHeld => ?_)
  · exact (hB3.cell (p := ⟨bl, 0, none⟩) hbl).trans hl
  clear hK K
  try simp only [Act.put, List.getElem_toArray, List.getElem_cons_succ, List.getElem_cons_zero, List.setIfInBounds_toArray, List.set_cons_zero, List.set_cons_succ]
  refine wpAnyH_ready (rs := [3]) (by kernel_rfl) (by simp) ?_
  refine AllReadyH.cons rfl (fun K hK => ?_) AllReadyH.nil
  rw [if_pos (by rfl)]
  go_simp
  go_at_call 36
  with_reducible refine TH.out.mono ?_
  rintro e w2 ⟨rfl, rfl⟩
  have j1 := (B5.out.cell (p := ⟨bl, 0, none⟩) hbl).trans hl
  refine hK.out _ _ ?_ (fun hHeld => ?_)
  · exact j1
  clear hK K
  try simp only [Act.put, List.getElem_toArray, List.getElem_cons_succ, List.getElem_cons_zero, List.setIfInBounds_toArray, List.set_cons_zero, List.set_cons_succ]
  refine wpAnyH_ready (rs := [4]) (by kernel_rfl) (by simp) ?_
  refine AllReadyH.cons rfl (fun K hK => ?_) AllReadyH.nil
  rw [if_pos (by rfl)]
  go_simp
  go_at_call 35
  with_reducible refine DL.out.mono ?_
  rintro e w3 ⟨rfl, hm⟩
  have hm2 := Mv.behind HD.out.2.2.2 hm
  obtain ⟨D2, _, b2, _⟩ := hm2
  refine hK.out _ _ ?_ (fun hHeld => ?_)
  · exact (b2.cell (b := bl) (o := 0) hbl HD.out.2.2.1).trans hl
  clear hK K
  try simp only [Act.put, List.getElem_toArray, List.getElem_cons_succ, List.getElem_cons_zero, List.setIfInBounds_toArray, List.set_cons_zero, List.set_cons_succ]
  refine wpAnyH_take (i := 5) (v := ?_) rfl (by kernel_rfl) (by kernel_rfl) (by kernel_rfl) (fun _ _ _ h => h) (Or.inl ⟨by rfl, ?_⟩) (by assumption) ?_
  rotate_left
  · intro w hSw
    (try dsimp only at hSw)
    go_simp
    all_goals with_reducible rfl
  try simp only [Act.put, List.getElem_toArray, List.getElem_cons_succ, List.getElem_cons_zero, List.setIfInBounds_toArray, List.set_cons_zero, List.set_cons_succ]
  refine wpAnyH_done (by kernel_rfl) ?_ _
  have HM := Lib.hid (Mv.behind HD.out.2.2.2 hm)
  clear hm b2 hHeld DL
  go_wp2
  go_ret
  exact ⟨rfl, HM.out⟩
end
end
section
set_option linter.unusedSimpArgs false
set_option linter.unusedVariables false
open Go.RowKit Go.Sort Go.Maps Go.Shelf
open Crc Frm
open Sgn
attribute [local go_sem] Oper.semAt_some

def openSS : List (Lg × St → Int × (Lg × St)) := [fun s => ((lgRestore s.2).1, ((lgRestore s.2).2.2, (lgRestore s.2).2.1)), fun s => ((thenSt (s.2.drop fxL) fun t => t.drop nxL).1, (s.1, (thenSt (s.2.drop fxL) fun t => t.drop nxL).2))]
theorem openSS_is (size : Int) (hs : ¬ (size < 64 ∨ 65536 < size)) (t : St) : lgOpen size t = ((turnS openSS (⟨[], 0⟩, t)).1, (turnS openSS (⟨[], 0⟩, t)).2.2, if (turnS openSS (⟨[], 0⟩, t)).1 = 0 then some (turnS openSS (⟨[], 0⟩, t)).2.1 else none) := by
  have e2 : ∀ r : Int × St, r.1 = 0 → (thenSt (thenSt r fun t => t.drop fxL) fun t => t.drop nxL) = thenSt (r.2.drop fxL) fun t => t.drop nxL := fun r h => by rw [thenSt_eq r _ h]
  have e3 : ∀ r : Int × St, r.1 ≠ 0 → (thenSt (thenSt r fun t => t.drop fxL) fun t => t.drop nxL) = r := fun r h => by rw [thenSt_ne r _ h, thenSt_ne r _ h]
  unfold lgOpen
  rw [if_neg hs]
  simp only
  unfold openSS
  by_cases h1 : (lgRestore t).1 = 0
  · rw [turnS_thens _ _ _ h1, turnS_last, e2 _ h1]
    simp only
    generalize (thenSt ((lgRestore t).2.1.drop fxL) fun t => t.drop nxL) = q
    by_cases h : q.1 = 0
    · rw [if_neg (by simp [h]), if_pos h, h]
    · rw [if_pos h, if_neg h]
  · rw [turnS_stop _ _ _ h1, e3 _ h1]
    simp only
    rw [if_pos h1, if_neg h1]
section
variable {w0 w : World} {dp lp size : Nat} {t : St} {D : Nat → Prop}
abbrev opF : Nat → FuncId
  | 0 => 33
  | _ => 34
abbrev opP (lp : Nat) : Nat → Array Value
  | 0 => #[.pointer (some ⟨lp, 0, none⟩)]
  | _ => #[]
abbrev opC (bl : Nat) : Nat → Array Value
  | 0 => #[]
  | _ => #[.pointer (some ⟨bl, 0, none⟩)]
set_option maxRecDepth 100000 in
theorem opens_any (h : LK w0 w dp lp size ⟨[], 0⟩ t D none 0) (bl gb : Nat) (hl : w.cell? ⟨bl, 0, none⟩ = some (.pointer (some ⟨lp, 0, none⟩))) (hbl : ¬ lO D lp none bl) (hL : Laid w0)
    (hgb : ¬ lO D lp none gb) (hc : ∀ k, k < 2 → w.cell? ⟨gb, k, none⟩ = some (.func (.func (opF k)) (opP lp k) (opC bl k))) :
    Calls Tryz.prog 32 #[.slice (some ⟨gb, 0, none⟩) 2 2] w fun e w' => e = .returned (.int .i64 (turnS openSS (⟨[], 0⟩, t)).1) ∧ LMv w0 w dp lp size (lO D lp none) (turnS openSS (⟨[], 0⟩, t)).2.1 (turnS openSS (⟨[], 0⟩, t)).2.2 w' := by
  have hll : bl < w.heap.size := block_lt_of_cell hl
  have hgl : gb < w.heap.size := block_lt_of_cell (hc 0 (by omega))
  have k2 : ∀ x : World, (callFunc 33 (opP lp 0 ++ opC bl 0)).run Tryz.prog x = .ok (.enter 33 (opP lp 0 ++ opC bl 0)) x := fun x => by kernel_rfl
  have k3 : ∀ x : World, (callFunc 34 (opP lp 1 ++ opC bl 1)).run Tryz.prog x = .ok (.enter 34 (opP lp 1 ++ opC bl 1)) x := fun x => by kernel_rfl
  refine (lturnK_any openSS 2 rfl opF (opP lp) (opC bl) gb w (fun k s w' => (k = 0 → s = (⟨[], 0⟩, t) ∧ w' = w) ∧ LMv w0 w dp lp size (lO D lp none) s.1 s.2 w') (⟨[], 0⟩, t) (by omega) ?_ ?_ ?_ ⟨fun _ => ⟨rfl, rfl⟩, h.still (Below.refl _ _)⟩).mono fun e w' ⟨he, _, _, hm⟩ => ⟨he, hm⟩
  · rintro k s w' hk ⟨_, D', sa', sc', _, hb, _⟩
    exact (hb.cell hgl hgb).trans (hc k hk)
  · intro k x hk
    match k, hk with
    | 0, _ => exact k2 x
    | 1, _ => exact k3 x
  · rintro k f s w' hf ⟨hg, D', sa', sc', hk1, hb, hO⟩
    match k, hf with
    | 0, hf =>
      injection hf with hf; subst hf
      obtain ⟨e1, e2⟩ := hg rfl
      subst e1 e2
      exact (restore_any h hL).mono fun e w'' ⟨he, hm⟩ => ⟨he, fun h => absurd h (by omega), hm⟩
    | 1, hf =>
      injection hf with hf; subst hf
      refine (open1_any hk1.dk hk1.at_.c0 hk1.own ((hb.cell (o := 0) hll hbl).trans hl) (fun hd => ?_)).mono fun e w'' ⟨he, hm⟩ => ⟨he, fun h => absurd h (by omega), LMv.then hb hO (hk1.mv hm)⟩
      rcases hO bl (.inl hd) with h4 | h4
      · exact hbl h4
      · omega
    | k + 2, hf => simp [openSS] at hf
/-- What Open leaves. -/
def OpenL (w0 w : World) (dp size : Nat) (D : Nat → Prop) (r : Int × St × Option Lg) (e : Ending) (w' : World) : Prop :=
  match r.2.2 with
  | none => e = .returned (.tuple #[.pointer none, .int .i64 r.1]) ∧ Mv w0 w dp D r.2.1 w'
  | some g => ∃ lp D' sa sc, e = .returned (.tuple #[.pointer (some ⟨lp, 0, none⟩), .int .i64 0]) ∧ LK w0 w' dp lp size g r.2.1 D' sa sc ∧ But D w w' ∧ w.heap.size ≤ lp ∧ ∀ k, lO D' lp sa k → D k ∨ w.heap.size ≤ k
set_option linter.unusedSimpArgs false in
set_option maxRecDepth 100000 in
set_option maxHeartbeats 1600000 in
theorem lgopen_any (hd : DK w0 w dp t D) (hL : Laid w0) (h64 : 64 ≤ size) (h65 : size ≤ 65536) :
    Calls Tryz.prog 10 #[.pointer (some ⟨dp, 0, none⟩), .int .i64 (size : Int)] w (OpenL w0 w dp size D (lgOpen size t)) := by
  have hmf : ∀ (fn : Fn) (first cap : Array Value) (w : World), (Instr.makeFunc fn first cap).run Tryz.prog w = .ok (.func fn first cap) w := fun _ _ _ _ => rfl
  obtain ⟨w2, hw2⟩ : ∃ w2, w2 = ((w.alloc (.cells #[.pointer (some ⟨dp, 0, none⟩), .int .i64 (size : Int), .slice none 0 0, .int .i64 0] 79)).alloc (.cells #[.pointer (some ⟨w.heap.size, 0, none⟩)] 29)).alloc (.cells #[.func (.func 33) #[.pointer (some ⟨w.heap.size, 0, none⟩)] #[], .func (.func 34) #[] #[.pointer (some ⟨w.heap.size + 1, 0, none⟩)]] 69) := ⟨_, rfl⟩
  have hb2 : Below w.heap.size w w2 := by rw [hw2]; exact (((Below.refl _ _).alloc (Nat.le_refl _) _).alloc (by simp) _).alloc (by simp; omega) _
  have hs2 : w2.heap.size = w.heap.size + 3 := by rw [hw2]; simp
  have hblk : w2.heap[w.heap.size]? = some (.cells #[.pointer (some ⟨dp, 0, none⟩), .int .i64 (size : Int), .slice none 0 0, .int .i64 0] 79 (0, 0)) := by
    rw [hw2, Below.heap_alloc _ _ _ (by simp; omega), Below.heap_alloc _ _ _ (by simp)]
    exact heap_alloc_new _ _
  have hl2 : w2.cell? ⟨w.heap.size + 1, 0, none⟩ = some (.pointer (some ⟨w.heap.size, 0, none⟩)) := by rw [hw2]; simp [go_sem]
  have hDlt := hd.lt
  have hww := hd.below.size
  have K2 : LK w0 w2 dp w.heap.size size ⟨[], 0⟩ t D none 0 := ⟨hd.on hb2, ⟨hblk, ⟨Nat.le_refl _, by unfold maxLen; omega, fun h => absurd h (by decide)⟩, fun _ => ⟨rfl, rfl⟩⟩, hww, fun hd => by have := hDlt _ hd; omega, fun k o e => by cases e⟩
  have hc2 : ∀ k, k < 2 → w2.cell? ⟨w.heap.size + 2, k, none⟩ = some (.func (.func (opF k)) (opP w.heap.size k) (opC (w.heap.size + 1) k)) := by
    intro k hk
    rw [hw2, show w.heap.size + 2 = ((w.alloc (.cells #[.pointer (some ⟨dp, 0, none⟩), .int .i64 (size : Int), .slice none 0 0, .int .i64 0] 79)).alloc (.cells #[.pointer (some ⟨w.heap.size, 0, none⟩)] 29)).heap.size from by simp]
    match k, hk with
    | 0, _ => exact (cell_of_row _ _ 0 _ _ _ (heap_alloc_new _ _)).trans rfl
    | 1, _ => exact (cell_of_row _ _ 1 _ _ _ (heap_alloc_new _ _)).trans rfl
  have nO : ∀ k, w.heap.size < k → ¬ lO D w.heap.size none k := fun k hk ho => by
    rcases ho with h1 | h1 | ⟨o, h1⟩
    · have := hDlt k h1; omega
    · omega
    · cases h1
  have OP := opens_any K2 (w.heap.size + 1) (w.heap.size + 2) hl2 (nO _ (by omega)) hL (nO _ (by omega)) hc2
  have hO : ∀ k, lO D w.heap.size none k → D k ∨ w.heap.size ≤ k := fun k ho => by
    rcases ho with h1 | h1 | ⟨o, h1⟩
    · exact .inl h1
    · exact .inr (by omega)
    · cases h1
  have hres := openSS_is (size : Int) (by omega) t
  have HA := Lib.hid (And.intro hO (And.intro hb2 (And.intro hl2 (And.intro (nO (w.heap.size + 1) (by omega)) (And.intro hs2 hw2)))))
  rw [hw2] at OP
  have OP := Lib.hid OP
  have HR := Lib.hid hres
  generalize turnS openSS (⟨[], 0⟩, t) = r at *
  have i64 : ((size : Int) < 64) = False := by simp; omega
  have i65 : (65536 < (size : Int)) = False := by simp; omega
  have h64' : (64 : Int) ≤ (size : Int) := by omega
  have h65' : (size : Int) ≤ 65536 := by omega
  clear hd hL hb2 hs2 hblk hl2 hDlt hww K2 hc2 nO hO hres hw2 i64 i65 h64 h65
  go_enter Tryz.func10, Tryz.ntmps10
  go_wp2_with fail
  refine OP.out.mono ?_
  rintro e w3 ⟨rfl, hm⟩
  rw [← HA.out.2.2.2.2.2] at hm
  obtain ⟨D', sa, sc, k3, b3, hO3⟩ := hm
  have hl3 := (b3.cell (b := w.heap.size + 1) (o := 0) (by have := HA.out.2.2.2.2.1; omega) HA.out.2.2.2.1).trans HA.out.2.2.1
  have HB := Lib.hid (And.intro k3 (And.intro ((But.of_below (O := D) HA.out.2.1).trans b3 HA.out.1) (fun k hk => by
    rcases hO3 k hk with h1 | h1
    · exact HA.out.1 k h1
    · exact .inr (Nat.le_trans HA.out.2.1.size h1) : ∀ k, lO D' w.heap.size sa k → D k ∨ w.heap.size ≤ k)))
  clear OP k3 b3 hO3
  by_cases h0 : r.1 = 0
  · have hgo := HR.out
    rw [if_pos h0, h0] at hgo
    have HG := Lib.hid hgo
    clear hgo HR
    go_wp2
    go_ret2
    rw [HG.out]
    exact ⟨w.heap.size, D', sa, sc, rfl, HB.out.1, HB.out.2.1, Nat.le_refl _, HB.out.2.2⟩
  · have hne : ((r.1 : Int) != 0) = true := by simpa using h0
    have hgo := HR.out
    rw [if_neg h0] at hgo
    have HG := Lib.hid hgo
    clear hgo HR h0
    go_wp2
    go_ret2
    rw [HG.out]
    exact ⟨rfl, D', HB.out.1.dk, HB.out.2.1, fun k hk => HB.out.2.2 k (.inl hk)⟩
end
end
section
set_option linter.unusedSimpArgs false
set_option linter.unusedVariables false
open Go.RowKit Go.Sort Go.Maps Go.Shelf
open Crc Frm
open Sgn
attribute [local go_sem] Oper.semAt_some

section
variable {w0 w : World} {dp lp size : Nat} {t : St} {D : Nat → Prop}
theorem lgopen_arg (dp : Nat) (size : Int) (hs : size < 64 ∨ 65536 < size) (w : World) :
    Calls Tryz.prog 10 #[.pointer (some ⟨dp, 0, none⟩), .int .i64 size] w fun e w' => e = .returned (.tuple #[.pointer none, .int .i64 1]) ∧ w' = w := by
  by_cases h1 : size < 64
  · clear hs
    go_enter Tryz.func10, Tryz.ntmps10
    go_wp2
    go_ret2
    exact ⟨rfl, rfl⟩
  · have h2 : 65536 < size := by omega
    have h3 : 64 ≤ size := by omega
    clear hs h1
    go_enter Tryz.func10, Tryz.ntmps10
    go_wp2
    go_ret2
    exact ⟨rfl, rfl⟩
set_option linter.unusedSimpArgs false in
set_option maxRecDepth 100000 in
set_option maxHeartbeats 1600000 in
theorem deleteEach_any (hd : DK w0 w dp t D) (c0 : w.cell? ⟨lp, 0, none⟩ = some (.pointer (some ⟨dp, 0, none⟩))) (hlp : ¬ D lp) (names : List (List UInt8)) (a : Option Addr) (n c : Nat) (hn : names.length = n) (hr : Row w w.heap.size a n c 1 (nmC names)) (hshort : ∀ s ∈ names, shortS s) (hfar : ∀ k o, a = some ⟨k, o, none⟩ → ¬ D k) :
    Calls Tryz.prog 77 #[.pointer (some ⟨lp, 0, none⟩), .slice a n c] w fun e w' => e = .returned (.int .i64 (delEach names 0 t).1) ∧ Mv w0 w dp D (delEach names 0 t).2 w' := by
  have hrl := hr.le
  have hrm := hr.max
  unfold maxLen at hrm
  have hll := block_lt_of_cell c0
  have H := Lib.hid (And.intro hd (And.intro c0 (And.intro hlp (And.intro hr (And.intro hshort (And.intro hfar hn))))))
  clear hd c0 hlp hr hshort hfar hn
  go_enter Tryz.func77, Tryz.ntmps77
  go_wp2_with fail
  go_loopw [5, 7, 8, 11] (fun f _ _ i wr => ∃ (k : Nat) (x : Int) (t' : St), k ≤ n ∧ i = .int .i64 (k : Int) ∧ f = .int .i64 x ∧ Mv w0 w dp D t' wr ∧ delEach (names.drop k) x t' = delEach names 0 t) (fun _ _ _ i _ => n - (intOf i).toNat)
  case atStart => exact ⟨0, 0, t, Nat.zero_le _, rfl, rfl, Mv.still H.out.1 (Below.refl _ _), rfl⟩
  case round =>
    obtain ⟨k, x, t', hk, rfl, rfl, hm, hrun⟩ := hrel
    by_cases hlt : k < n
    · obtain ⟨D', hd', hb, hD⟩ := hm
      obtain ⟨b, o, rfl, hbl, hc⟩ := H.out.2.2.2.1.at_ (by omega)
      have hc0 := (hb.cell (b := lp) (o := 0) hll H.out.2.2.1).trans H.out.2.1
      have hck : wr.cell? ⟨b, o + k, none⟩ = some (.string ⟨(names.getD k []).toArray⟩) := (hb.cell (b := b) (o := o + k) hbl (H.out.2.2.2.2.2.1 b o rfl)).trans (hc k (by omega))
      have hln := H.out.2.2.2.2.2.2
      have hmem : names.getD k [] ∈ names := by
        rw [List.getD_eq_getElem?_getD, List.getElem?_eq_getElem (by omega)]
        exact List.getElem_mem _
      have hdrop : names.drop k = names.getD k [] :: names.drop (k + 1) := by
        rw [List.drop_eq_getElem_cons (by omega), List.getD_eq_getElem?_getD, List.getElem?_eq_getElem (by omega)]
        rfl
      have hsh := H.out.2.2.2.2.1 _ hmem
      rw [hdrop] at hrun
      obtain ⟨s, hs⟩ : ∃ s, s = names.getD k [] := ⟨_, rfl⟩
      rw [← hs] at hck hsh hrun
      have DE := hd'.delete ⟨s.toArray⟩ (by unfold shortS at hsh; show s.length ≤ _; omega)
      change Calls _ _ _ _ (fun e w' => e = .returned (.int .i64 (t'.delete s).1) ∧ Mv w0 wr dp D' (t'.delete s).2 w') at DE
      change delEach (names.drop (k + 1)) (if x = 0 then (t'.delete s).1 else x) (t'.delete s).2 = _ at hrun
      have HR := Lib.hid hrun
      generalize t'.delete s = r at *
      have HM : Hid (∀ w2, Mv w0 wr dp D' r.2 w2 → Mv w0 w dp D r.2 w2) := fun w2 h2 => Mv.then hb hD h2
      have DE := Lib.hid DE
      clear hrun hb hD hd' hc hmem hdrop hs hsh hln hbl
      by_cases hx : x = 0
      · subst hx
        go_wp2_with fail
        refine DE.out.mono ?_
        rintro e w2 ⟨rfl, h2⟩
        have H2 := Lib.hid (HM.out w2 h2)
        clear h2 DE
        go_wp2_with fail
        go_roundw
        case rel => exact ⟨k + 1, r.1, r.2, by omega, by go_num, rfl, H2.out, HR.out⟩
        case measure => simp [intOf]; omega
      · have hxn : (x == 0) = false := by simpa using hx
        have hrun := HR.out
        rw [if_neg hx] at hrun
        have HR2 := Lib.hid hrun
        clear hrun HR hx
        go_wp2_with fail
        refine DE.out.mono ?_
        rintro e w2 ⟨rfl, h2⟩
        have H2 := Lib.hid (HM.out w2 h2)
        clear h2 DE
        go_wp2_with fail
        go_roundw
        case rel => exact ⟨k + 1, x, r.2, by omega, by go_num, rfl, H2.out, HR2.out⟩
        case measure => simp [intOf]; omega
    · have hkn : k = n := by omega
      subst hkn
      rw [List.drop_of_length_le (by have := H.out.2.2.2.2.2.2; omega)] at hrun
      have HE := Lib.hid (And.intro hm hrun)
      clear hm hrun
      go_wp2
      go_ret
      rw [← HE.out.2]
      exact ⟨rfl, HE.out.1⟩
end
end
section
set_option linter.unusedSimpArgs false
set_option linter.unusedVariables false
open Go.RowKit Go.Sort Go.Maps Go.Shelf
open Crc Frm
open Sgn
attribute [local go_sem] Oper.semAt_some

theorem lgGone_lt {g : Lg} (hne : g.segs ≠ []) (seq : Int) : lgGone g seq < g.segs.length := by
  unfold lgGone
  have h1 := (List.takeWhile_prefix (p := fun x => decide (x ≤ seq)) (l := g.segs.tail)).length_le
  have h2 : 0 < g.segs.length := List.length_pos_iff.2 hne
  rw [List.length_tail] at h1
  omega
section
variable {w0 w : World} {dp lp size : Nat} {g : Lg} {t : St} {D : Nat → Prop} {sa : Option Addr} {sc : Nat}
theorem LK.setSegs (h : LK w0 w dp lp size g t D sa sc) (l : List Int) (a2 : Option Addr) (c2 : Nat) (hrow : Row w w.heap.size a2 l.length c2 1 (intsC l)) (hnil : a2 = none → l.length = 0 ∧ c2 = 0) (hfar : ∀ k o, a2 = some ⟨k, o, none⟩ → ¬ D k ∧ k ≠ lp ∧ w0.heap.size ≤ k ∧ k < w.heap.size) :
    LK w0 (w.setCell ⟨lp, 2, none⟩ (.slice a2 l.length c2)) dp lp size { g with segs := l } t D a2 c2 := by
  refine ⟨h.dk.setOut ⟨lp, 2, none⟩ _ h.own h.base, ⟨heap_setCell_same w lp 2 _ _ (.slice a2 l.length c2) h.at_.blk, ?_, hnil⟩, h.base, h.own, fun k o e => ?_⟩
  · exact hrow.but ((But.refl (fun k => k = lp) w).setCell (p := ⟨lp, 2, none⟩) (.inl rfl) _) (fun _ k o e => (hfar k o e).2.1)
  · obtain ⟨h1, h2, h3, h4⟩ := hfar k o e
    exact ⟨h1, h2, h3, by simpa using h4⟩
/-- behind: a closure over two boxes. -/
def behindW (w : World) (lp : Nat) (seq : Int) : World := (w.alloc (.cells #[.pointer (some ⟨lp, 0, none⟩)] 29)).alloc (.cells #[.int .i64 seq] 2)
theorem behind_any (lp : Nat) (seq : Int) (w : World) :
    Calls Tryz.prog 75 #[.pointer (some ⟨lp, 0, none⟩), .int .i64 seq] w fun e w' =>
      e = .returned (.func (.func 128) #[] #[.pointer (some ⟨w.heap.size, 0, none⟩), .pointer (some ⟨w.heap.size + 1, 0, none⟩)]) ∧ w' = behindW w lp seq := by
  go_enter Tryz.func75, Tryz.ntmps75
  go_wp2
  go_ret
  exact ⟨rfl, rfl⟩
theorem behindW_below (w : World) (lp : Nat) (seq : Int) : Below w.heap.size w (behindW w lp seq) := ((Below.refl _ w).alloc (Nat.le_refl _) _).alloc (by simp) _
/-- What slices.Collect of behind is to tell. -/
def ColT (w : World) (g : Lg) (seq : Int) (e : Ending) (w' : World) : Prop :=
  ∃ a c, e = .returned (.slice a (lgGone g seq) c) ∧ Row w' w'.heap.size a (lgGone g seq) c 1 (nmC ((g.segs.take (lgGone g seq)).map nm)) ∧ Below w.heap.size w w' ∧ ∀ k o, a = some ⟨k, o, none⟩ → w.heap.size ≤ k ∧ k < w'.heap.size
set_option linter.unusedSimpArgs false in
set_option maxRecDepth 100000 in
set_option maxHeartbeats 1600000 in
theorem retain_of (h : LK w0 w dp lp size g t D sa sc) (hne : g.segs ≠ []) (hlen : g.segs.length ≤ 1000) (seq : Int)
    (HC : Calls Tryz.prog 74 #[.func (.func 128) #[] #[.pointer (some ⟨w.heap.size, 0, none⟩), .pointer (some ⟨w.heap.size + 1, 0, none⟩)]] (behindW w lp seq) (ColT (behindW w lp seq) g seq)) :
    Calls Tryz.prog 27 #[.pointer (some ⟨lp, 0, none⟩), .int .i64 seq] w fun e w' => e = .returned (.int .i64 (lgRetain g t seq).1) ∧ LMv w0 w dp lp size (lO D lp sa) (lgRetain g t seq).2.2 (lgRetain g t seq).2.1 w' := by
  have BH := Lib.hid (behind_any lp seq w)
  have HC := Lib.hid HC
  have hgl := lgGone_lt hne seq
  have hR : Hid (lgRetain g t seq = if lgGone g seq = 0 then (0, t, g) else if (mSwap t (g.segs.drop (lgGone g seq))).1 ≠ 0 then ((mSwap t (g.segs.drop (lgGone g seq))).1, (mSwap t (g.segs.drop (lgGone g seq))).2, g) else
      ((delEach ((g.segs.take (lgGone g seq)).map nm) 0 (mSwap t (g.segs.drop (lgGone g seq))).2).1, (delEach ((g.segs.take (lgGone g seq)).map nm) 0 (mSwap t (g.segs.drop (lgGone g seq))).2).2, { g with segs := g.segs.drop (lgGone g seq) })) := rfl
  have hbW := behindW_below w lp seq
  have H := Lib.hid (And.intro h (And.intro hne (And.intro hlen hbW)))
  clear h hne hlen hbW
  go_enter Tryz.func27, Tryz.ntmps27
  go_wp2_with fail
  refine BH.out.mono ?_
  rintro e w1 ⟨rfl, rfl⟩
  clear BH
  go_wp2_with fail
  refine HC.out.mono ?_
  rintro e w2 ⟨a, c, rfl, hr2, hb2, ha2⟩
  unfold ColT at *
  generalize lgGone g seq = n at *
  have B2 : Below w.heap.size w w2 := H.out.2.2.2.trans (hb2.mono H.out.2.2.2.size)
  have K2 := H.out.1.on B2
  have hsl := K2.at_.c2
  have lc0 := K2.at_.c0
  obtain ⟨m, hm⟩ : ∃ m, m = g.segs.length := ⟨_, rfl⟩
  have hll : lp < w2.heap.size := K2.at_.lt
  have hrow2 := K2.at_.row
  have hnil2 := K2.at_.nil_
  have hfar2 := K2.far
  have hbig : w.heap.size ≤ (behindW w lp seq).heap.size := H.out.2.2.2.size
  have hDlt := H.out.1.dk.lt
  have hlpw := H.out.1.at_.lt
  have HN := Lib.hid (And.intro hr2 (And.intro ha2 (And.intro B2 (And.intro K2 hm))))
  rw [← hm] at hsl hgl
  by_cases h0 : n = 0
  · subst h0
    have hres : Hid (lgRetain g t seq = (0, t, g)) := hR.out
    clear hR HC hr2 ha2 B2 K2 hrow2 hnil2 hfar2 hb2 hm
    go_wp2
    go_ret
    rw [hres.out]
    exact ⟨rfl, H.out.1.still HN.out.2.2.1⟩
  · have hne0 : ((n : Int) == 0) = false := by simp; omega
    have hres := Lib.hid (hR.out.trans (if_neg h0))
    have cut : ∀ x : World, (Instr.slice 50 (.slice sa m sc) (some (.int .i64 (n : Int))) none none).run Tryz.prog x = .ok (.slice (fromA sa sc n) (m - n) (sc - n)) x := fun x => run_cut1_from (P := Tryz.prog) 50 2 Tryz.underlying50 info_i64m sa m sc n (by omega) x
    obtain ⟨st, hst⟩ : ∃ st, st = g.segs.drop n := ⟨_, rfl⟩
    have hstl : st.length = m - n := by rw [hst, List.length_drop, hm]
    have CL := Lib.hid (clone_ints (fromA sa sc n) (m - n) (sc - n) st w2 (by rw [hst, hm]; exact hrow2.from_ (by omega) rfl) hstl (fun hn => by
      have hs : sa = none := by unfold fromA at hn; split at hn <;> simp_all
      have := hnil2 hs
      omega) (by have := H.out.2.2.1; omega))
    rw [← hst] at hres
    have HS := Lib.hid (And.intro hst hstl)
    clear hR HC hr2 ha2 B2 K2 hrow2 hnil2 hfar2 hm h0 hst hstl
    go_wp2_with fail
    refine CL.out.mono ?_
    rintro e w3 ⟨v, rfl, ho3, hb3⟩
    obtain ⟨a3, c3, rfl, hr3, ha3⟩ := OwnV.out_ ho3
    have hnil3 := OwnV.nil_own ho3
    have K3 := HN.out.2.2.2.1.on hb3
    have SW := Lib.hid (mswap_any K3.dk st a3 st.length c3 hr3 rfl (fun _ k o e hd => by have := hDlt k hd; have := ha3 k o e; have := HN.out.2.2.1.size; omega))
    have lc03 := K3.at_.c0
    obtain ⟨q, hq⟩ : ∃ q, q = st.length := ⟨_, rfl⟩
    rw [← hq] at hr3 SW
    generalize hs : mSwap t st = s at *
    have H3 := Lib.hid (And.intro ho3 (And.intro hb3 (And.intro hr3 (And.intro ha3 (And.intro hnil3 (And.intro K3 hq))))))
    clear CL ho3 hb3 hr3 ha3 hnil3 K3 hs hsl lc0
    try rw [← hq]
    clear hq
    go_wp2_with fail
    refine SW.out.mono ?_
    rintro e w4 ⟨rfl, hmv⟩
    have B3 := HN.out.2.2.1.trans (H3.out.2.1.mono HN.out.2.2.1.size)
    have hB2 := HN.out.2.2.1.size
    have hB3 := H3.out.2.1.size
    by_cases hz : s.1 = 0
    · obtain ⟨D4, hk4, b4, hD4⟩ := hmv
      have K4 := H3.out.2.2.2.2.2.1.but hk4 b4 hD4
      have hb4 := b4.size
      have h3f : ∀ k o, a3 = some ⟨k, o, none⟩ → w2.heap.size ≤ k ∧ k < w3.heap.size := fun k o e => H3.out.1.at_base (by rw [e]; rfl)
      have hr4 : Row w4 w4.heap.size a3 q c3 1 (intsC st) := H3.out.2.2.1.but b4 (fun _ k o e hd => by have := hDlt k hd; have := (h3f k o e).1; omega)
      have hD4' : ∀ k, k < w3.heap.size → w.heap.size ≤ k → ¬ D4 k := fun k h1 h2 hd => by
        rcases hD4 k hd with h3 | h3
        · have := hDlt k h3; omega
        · omega
      have hw0 := H.out.1.dk.below.size
      have K5 := K4.setSegs st a3 c3 (by rw [← H3.out.2.2.2.2.2.2]; exact hr4) (fun e => by subst e; exact H3.out.2.2.2.2.1 _ _ rfl) (fun k o e => by have := h3f k o e; exact ⟨hD4' k (by omega) (by omega), by omega, by omega, by omega⟩)
      rw [← H3.out.2.2.2.2.2.2] at K5
      have lc04 := K4.at_.c0
      have lz4 := K4.at_.z 2
      have lc24 := K4.at_.c2
      have hnf : ∀ k o, a = some ⟨k, o, none⟩ → ¬ D4 k ∧ k ≠ lp := fun k o e => by
        have := HN.out.2.1 k o e
        exact ⟨hD4' k (by omega) (by omega), by omega⟩
      have hr5 : Row (w4.setCell ⟨lp, 2, none⟩ (.slice a3 q c3)) (w4.setCell ⟨lp, 2, none⟩ (.slice a3 q c3)).heap.size a n c 1 (nmC ((g.segs.take n).map nm)) := by
        have r3 := (HN.out.1.below H3.out.2.1 (Nat.le_refl _)).more H3.out.2.1.size
        have r4 : Row w4 w4.heap.size a n c 1 (nmC ((g.segs.take n).map nm)) := r3.but b4 (fun _ k o e hd => by have := hDlt k hd; have := HN.out.2.1 k o e; omega)
        exact r4.but ((But.refl (fun k => k = lp) w4).setCell (p := ⟨lp, 2, none⟩) (.inl rfl) _) (fun _ k o e => (hnf k o e).2)
      have DE := deleteEach_any K5.dk K5.at_.c0 K5.own ((g.segs.take n).map nm) a n c (by rw [List.length_map, List.length_take]; have := HN.out.2.2.2.2; omega) hr5 (fun y hy => by
        obtain ⟨x, _, rfl⟩ := List.mem_map.1 hy
        have := nm_short x; unfold shortS; omega) (fun k o e => (hnf k o e).1)
      have hresz := Lib.hid (hres.out.trans (if_neg (by simp [hz])))
      generalize delEach ((g.segs.take n).map nm) 0 s.2 = r at *
      have hb45 : But (lO D lp sa) w (w4.setCell ⟨lp, 2, none⟩ (.slice a3 q c3)) := ((But.of_below (O := lO D lp sa) B3).trans b4 (fun k hk => .inl (.inl hk))).trans ((But.refl (fun k => k = lp) w4).setCell (p := ⟨lp, 2, none⟩) (.inl rfl) _) (fun k hk => .inl (.inr (.inl hk)))
      have hO5 : ∀ k, lO D4 lp a3 k → lO D lp sa k ∨ w.heap.size ≤ k := fun k hk => by
        rcases hk with h1 | h1 | ⟨o, h1⟩
        · rcases hD4 k h1 with h2 | h2
          · exact .inl (.inl h2)
          · exact .inr (by omega)
        · exact .inl (.inr (.inl h1))
        · exact .inr (by have := h3f k o h1; omega)
      have HE := Lib.hid (And.intro K5 (And.intro hb45 hO5))
      have DE := Lib.hid DE
      have hlp4 := K4.at_.lt
      clear hk4 b4 hD4 K4 hb4 h3f hr4 hD4' hw0 K5 hnf hr5 hb45 hO5 hres SW
      go_wp2_with fail
      refine DE.out.mono ?_
      rintro e w6 ⟨rfl, h6⟩
      have H6 := Lib.hid h6
      clear h6 DE
      go_wp2
      go_ret
      rw [hresz.out]
      exact ⟨rfl, LMv.then HE.out.2.1 HE.out.2.2 (HE.out.1.mv H6.out)⟩
    · have hzn : ((s.1 : Int) != 0) = true := by simpa using hz
      have hresz := Lib.hid (hres.out.trans (if_pos hz))
      have HL := Lib.hid (LMv.then (But.of_below (O := lO D lp sa) B3) (fun k hk => .inl hk) (H3.out.2.2.2.2.2.1.mv hmv))
      clear hmv hz hres SW
      go_wp2
      go_ret
      rw [hresz.out]
      exact ⟨rfl, HL.out⟩
end
end
section
set_option linter.unusedSimpArgs false
set_option linter.unusedVariables false
open Go.RowKit
section
variable {F : Fence} {n : Nat} {P : Program} {w : World}

/-- What the iterator owes, where each round leaves 'U' of what has come. -/
def TellsV {α β : Type} (F : Fence) (n : Nat) (P : Program) (gf : Nat) (lb : Array Value) (encs : α → Array Value) (M : List α → α → Prop) (U : List α → β → World → Prop) (Kp : β → World → β → World → Prop) (S Sp : List α → Prop) (w : World) : Prop :=
  ∀ (l : Nat) (J : List α → β → World → Prop) (Jx : List α → World → Prop) (W : World) (d0 : β), Below w.heap.size w W → w.heap.size + 2 ≤ W.heap.size → (∀ s d X Y, J s d X → Below X.heap.size X Y → J s d Y) → (∀ s d X, J s d X → U s d X) →
    (∀ pre d x X, J pre d X → M pre x → YieldAt F (n - 1) P l (encs x) X fun e Y => (e = .returned (.bool true) ∧ ∃ d', J (pre ++ [x]) d' Y ∧ Kp d X d' Y) ∨ (e = .returned (.bool false) ∧ Jx (pre ++ [x]) Y)) → J [] d0 W →
    CallsIn F n P gf (#[.func (.yield l) #[] #[]] ++ lb) W fun e Y => (∃ v, e = .returned v) ∧ ((∃ xs d, S xs ∧ J xs d Y) ∨ (∃ pre, Sp pre ∧ Jx pre Y))

theorem range_tellsV {α β : Type} {g : Operand} {ps : Array Tmp} {assign body : Code} {Q : Exit → Act → World → Prop} {a : Act}
    (hro : F.round = none) (h1 : 1 ≤ n) {gf : Nat} {lb : Array Value} (hg : a.eval g = .func (.func gf) #[] lb) (hF : F.fn gf) (eg : ∀ args w, (callFunc gf args).run P w = .ok (.enter gf args) w)
    {encs : α → Array Value} {M : List α → α → Prop} {U : List α → β → World → Prop} {Kp : β → World → β → World → Prop} {S Sp : List α → Prop} (hseq : TellsV F (n - 1) P gf lb encs M U Kp S Sp w) (hps : ∀ x, (encs x).size = ps.size)
    (I : List α → β → World → Prop) (Ix : Code → List α → World → Prop) (d0 : β) (hI : ∀ pre d X Y, I pre d X → Below X.heap.size X Y → I pre d Y)
    (hI2 : ∀ pre d X r o, I pre d X → X.heap[w.heap.size + 1]? = some (.loop r) → I pre d (X.putObj (w.heap.size + 1) o)) (hKp : ∀ d X d' Y o o', Kp d (X.putObj (w.heap.size + 1) o) d' Y → Kp d X d' (Y.putObj (w.heap.size + 1) o')) (hIx2 : ∀ c pre X r o, Ix c pre X → X.heap[w.heap.size + 1]? = some (.loop r) → Ix c pre (X.putObj (w.heap.size + 1) o))
    (hU : ∀ pre d X, I pre d X → U pre d X) (h0 : I [] d0 w) (Ax : α → Act)
    (hassign : ∀ (l : Nat) (pre : List α) (d : β) (x : α) (W : World) (K : Act → World → Prop), I pre d W → M pre x → K (Ax x) W →
      assign.wpIn (F.inRound l) (n - 1 - 1) P (Exit.then K (fun _ _ _ => False)) { tmps := (ps.zip (encs x)).foldl (fun t (p, v) => t.setIfInBounds p v) a.tmps, defers := [] } W)
    (hbody : ∀ (l : Nat) (pre : List α) (d : β) (x : α) (W : World), I pre d W → M pre x → w.heap.size + 2 ≤ W.heap.size → body.wpIn (F.inRound l) (n - 1 - 1) P (postU w.heap.size I Kp d Ix (pre ++ [x]) W) (Ax x) W)
    (hdone : ∀ (xs : List α) (d : β) (W : World), S xs → I xs d W → W.heap[w.heap.size]? = some (.deferred (some [])) → Q .normal { a with defers := { target := .collected w.heap.size, args := #[] } :: a.defers } W)
    (hstop : ∀ (c : Code) (pre : List α) (W : World), Sp pre → Ix c pre W → W.heap[w.heap.size]? = some (.deferred (some [])) → c.wpIn F n P Q { a with defers := { target := .collected w.heap.size, args := #[] } :: a.defers } W) :
    (Code.rangeFunc g ps assign body).wpIn F n P Q a w := by
  refine wpIn_rangeFunc fun fn hfn => ?_
  rw [hro]
  obtain ⟨R, hR⟩ : ∃ R : LoopState → Option Code → Loop, R = fun s p => { state := s, pending := p, fn, tmps := a.tmps, params := ps, assign, body, defers := w.heap.size } := ⟨_, rfl⟩
  obtain ⟨V, hV⟩ : ∃ V, V = (w.alloc (.deferred (some []))).alloc (.loop (R .ready none)) := ⟨_, rfl⟩
  have hL : LoopAt w.heap.size (R .ready none) V := by
    rw [hV]
    refine ⟨?_, (Below.heap_alloc _ _ _ (by simp)).trans (World.alloc_heap_new w _)⟩
    have := World.alloc_heap_new (w.alloc (.deferred (some []))) (.loop (R .ready none))
    rwa [World.size_alloc] at this
  have hbV : Below w.heap.size w V := by rw [hV]; exact ((Below.refl _ w).alloc (Nat.le_refl _) _).alloc (by simp) _
  have hIV : I [] d0 V := hI _ _ _ _ h0 hbV
  refine ⟨w.heap.size + 1, [{ target := .collected w.heap.size, args := #[] }], V, { target := .fn (.func gf) lb, args := #[.func (.yield (w.heap.size + 1)) #[] #[]] }, V, gf, #[.func (.yield (w.heap.size + 1)) #[] #[]] ++ lb, V, ?_, ?_, ?_, ?_, fun _ => h1, ?_⟩
  · rw [hV, hR]; exact run_enterLoop_outer _ _ _ _ _
  · simp only [resolve, hg]; simp [go_sem]
  · intro f' hf'; simp [Target.leads] at hf'; subst hf'; exact hF
  · simp [invoke, go_sem, eg]
  refine (hseq (w.heap.size + 1) (fun pre d W => I pre d W ∧ LoopAt w.heap.size (R .ready none) W) (fun pre W => ∃ c, Ix c pre W ∧ LoopAt w.heap.size (R .done (some c)) W) V d0 hbV (by rw [hV]; simp)
    (fun s d X Y h hb => ⟨hI s d X Y h.1 hb, h.2.onB hb⟩) (fun s d X h => hU s d X h.1) ?_ ⟨hIV, hL⟩).mono ?_
  · rintro pre d x X ⟨hi, hX⟩ hm
    have hy := run_yield (P := P) (args := encs x) hX.own (by rw [hR]; exact hps x)
    rw [hR] at hy
    refine ⟨fn, _, assign, body, hy, roundIn_of_wpIn hfn (hassign _ pre d x X _ hi hm ?_)⟩
    clear hy
    refine ⟨_, run_beginRound hX.own (by rw [hR]), ?_⟩
    have hZ := hX.put { R .ready none with state := .busy }
    refine wpIn_mono (hbody _ pre d x _ (hI2 _ _ _ _ _ hi hX.own) hm hZ.lt) ?_
    have fin : ∀ (jump : Option Code) (U : World), KeepsL w.heap.size (X.putObj (w.heap.size + 1) (.loop { R .ready none with state := .busy })) U →
        (Instr.endRound (w.heap.size + 1) jump).run P U = .ok (.bool jump.isNone) (U.putObj (w.heap.size + 1) (.loop (R (if jump.isNone then .ready else .done) jump))) ∧ LoopAt w.heap.size { R .ready none with state := .busy } U ∧
        LoopAt w.heap.size (R (if jump.isNone then .ready else .done) jump) (U.putObj (w.heap.size + 1) (.loop (R (if jump.isNone then .ready else .done) jump))) := fun jump U hk => by
      have hU := hZ.keptL hk
      have := run_endRound (P := P) jump hU.own
      refine ⟨?_, hU, hU.put _⟩
      rw [hR] at this ⊢
      exact this
    rintro e a3 U hp
    match e, hp with
    | .normal, ⟨p1, d', p3, p4⟩ =>
      obtain ⟨q1, q2, q3⟩ := fin none U p1
      exact ⟨_, _, q1, .inl ⟨rfl, d', ⟨hI2 _ _ _ _ _ p3 q2.own, q3⟩, hKp _ _ _ _ _ _ p4⟩⟩
    | .ret, ⟨p1, p3⟩ =>
      obtain ⟨q1, q2, q3⟩ := fin (some .ret) U p1
      exact ⟨_, _, q1, .inr ⟨rfl, .ret, hIx2 _ _ _ _ _ p3 q2.own, q3⟩⟩
    | .exit id, ⟨p1, p3⟩ =>
      obtain ⟨q1, q2, q3⟩ := fin (some (.exit id)) U p1
      exact ⟨_, _, q1, .inr ⟨rfl, .exit id, hIx2 _ _ _ _ _ p3 q2.own, q3⟩⟩
    | .goto t, ⟨p1, p3⟩ =>
      obtain ⟨q1, q2, q3⟩ := fin (some (.goto t)) U p1
      exact ⟨_, _, q1, .inr ⟨rfl, .goto t, hIx2 _ _ _ _ _ p3 q2.own, q3⟩⟩
  · rintro e U ⟨⟨v, rfl⟩, h⟩
    have last : ∀ {s : LoopState} {p : Option Code}, LoopAt w.heap.size (R s p) U → s ≠ .busy → (Instr.endLoop (w.heap.size + 1)).run P U = .ok p (U.putObj (w.heap.size + 1) (.loop { R s p with state := .exhausted })) := fun {s p} h hs => by
      have := run_endLoop (P := P) h.own (by rw [hR]; exact hs)
      rw [hR] at this ⊢
      exact this
    rcases h with ⟨xs, d, hS, hi, hU⟩ | ⟨pre, hSp, c, hi, hU⟩
    · exact ⟨none, _, last hU (by simp), hdone xs d _ hS (hI2 _ _ _ _ _ hi hU.own) ((World.putObj_heap_other (by omega)).trans hU.shut)⟩
    · exact ⟨some c, _, last hU (by simp), hstop c pre _ hSp (hIx2 _ _ _ _ _ hi hU.own) ((World.putObj_heap_other (by omega)).trans hU.shut)⟩
end
end
section
set_option linter.unusedSimpArgs false
set_option linter.unusedVariables false
section
variable {F : Fence} {n : Nat} {P : Program} {ops : Array Oper} {Q : Exit → Act → World → Prop} {md : Region.Mode} {S : World → Prop} {T : List Nat}

/-- In each world of the kind S the operation gives v, leaves the world and calls nobody; or it isn't asked for. -/
def GivesF (P : Program) (ops : Array Oper) (S : World → Prop) (o : Oper) (v : Value) (a : Act) : Prop := YieldsIf P ops S o v a ∧ ∀ w, o.about P w a.eval = none
theorem GivesF.same {o : Oper} {v : Value} {a b : Act} (h : GivesF P ops S o v a) (he : execOp b.eval o = execOp a.eval o) (hw : Region.wanted o (yielded ops b.tmps) = Region.wanted o (yielded ops a.tmps)) (hb : ∀ w, o.about P w b.eval = o.about P w a.eval) : GivesF P ops S o v b :=
  ⟨h.1.of_same he hw, fun w => (hb w).trans (h.2 w)⟩
theorem GivesF.op {i : Nat} {o : Oper} {v : Value} {a : Act} (hro : F.round = none) (hi : ops[i]? = some o) (h : GivesF P ops S o v a) {K : Act → World → Prop} {w : World} (hS : S w) (hk : K (a.put o.dst v) w) : wpOpIn F n P ops Q i K a w := by
  have hab : ∀ f, o.about P w a.eval = some f → F.fn f := fun f hf => by rw [h.2 w] at hf; cases hf
  unfold wpOpIn
  rw [hi]
  show if Region.wanted o (yielded ops a.tmps) = true then _ else _
  rcases h.1 with ⟨hw, hv⟩ | ⟨hw, rfl⟩
  · rw [if_pos hw]
    unfold Oper.wpIn
    rw [hro, Oper.semAt_none, hv w hS]
    exact ⟨hab, hk⟩
  · rw [hw]; exact ⟨hab, hk⟩
/-- Another operation goes on the same, whether that value is laid already or not. -/
theorem GivesF.pass {j : Nat} {x y : Oper} {v : Value} (hro : F.round = none) (hj : ops[j]? = some y) (hap : x.apart ops y = true) (hsx : ∀ cs b, x.op ≠ .select cs b) (hsy : ∀ cs b, y.op ≠ .select cs b)
    (hQ : ∀ c a w, Q (.panic c) (a.put x.dst v) w → Q (.panic c) a w) {K : Act → World → Prop} {a : Act} {w : World} (hx : GivesF P ops S x v a) (h : wpOpIn F n P ops Q j K (a.put x.dst v) w) :
    wpOpIn F n P ops Q j (fun b u => GivesF P ops S x v b ∧ K (b.put x.dst v) u) a w := by
  obtain ⟨n1, n2, n3⟩ := Oper.apart_spec hap
  have g1 : ∀ u, GivesF P ops S x v (a.put y.dst u) := fun u => hx.same (execOp_put x hsx a y.dst u n3) (wanted_put x a y.dst u n3) (fun w => about_put x w a y.dst u n3)
  have g2 : ∀ d u, GivesF P ops S x v (({ a with defers := d :: a.defers } : Act).put y.dst u) := fun d u => by
    have g : GivesF P ops S x v ({ a with defers := d :: a.defers } : Act) := hx
    exact g.same (execOp_put x hsx _ y.dst u n3) (wanted_put x _ y.dst u n3) (fun w => about_put x w _ y.dst u n3)
  have ew := wanted_put y a x.dst v n1
  have ee := execOp_put y hsy a x.dst v n1
  have ea := about_put (P := P) y w a x.dst v n1
  unfold wpOpIn at h ⊢
  rw [hj] at h ⊢
  simp only [] at h ⊢
  rw [ew, ea] at h
  by_cases hw : Region.wanted y (yielded ops a.tmps) = true
  · rw [if_pos hw] at h ⊢
    unfold Oper.wpIn at h ⊢
    rw [ea] at h
    refine ⟨h.1, ?_⟩
    have h := h.2
    rw [hro, Oper.semAt_none, ee] at h
    rw [hro, Oper.semAt_none]
    revert h
    generalize (execOp a.eval y).run P w = r
    intro h
    match r, h with
    | .ok (.value u) w', h => exact ⟨g1 u, by rw [← Act.put_comm a v u n2]; exact h⟩
    | .ok .skip w', h => exact ⟨g1 undef, by rw [← Act.put_comm a v undef n2]; exact h⟩
    | .ok (.defer d) w', h =>
      refine ⟨g2 d undef, ?_⟩
      rw [← Act.put_comm _ v undef n2, ← Act.put_defers]
      exact h
    | .ok (.enter f args) w', h =>
      refine ⟨h.1, CallsIn.mono h.2 fun e w'' he => ?_⟩
      match e, he with
      | .returned u, he => exact ⟨g1 u, by rw [← Act.put_comm a v u n2]; exact he⟩
      | .panicked c, he => exact hQ c a w'' he
      | .outgrown, he => exact he
    | .ok (.row row args) w', h => exact ⟨h.1, RowsIn.mono h.2 fun u w'' he => ⟨g1 u, by rw [← Act.put_comm a v u n2]; exact he⟩⟩
    | .ok (.round l f tmps assign body) w', h =>
      refine ⟨h.1, RoundIn.mono h.2 fun e w'' he => ?_⟩
      match e, he with
      | .returned u, he => exact ⟨g1 u, by rw [← Act.put_comm a v u n2]; exact he⟩
      | .panicked c, he => exact hQ c a w'' he
      | .outgrown, he => exact he
    | .halt (.panic u) w', h => exact hQ _ a w' h
  · rw [if_neg hw] at h ⊢
    exact ⟨h.1, g1 undef, by rw [← Act.put_comm a v undef n2]; exact h.2⟩

/-- Whatever order is picked from here on; S holds behind each operation, but for those of T. -/
def heldF (F : Fence) (n : Nat) (P : Program) (md : Region.Mode) (ops : Array Oper) (Q : Exit → Act → World → Prop) (S : World → Prop) (T : List Nat) : Nat → Array Bool → Act → World → Prop
  | 0, L, a, w => Region.ready md ops L = [] ∧ Q .normal a w
  | fuel + 1, L, a, w => (Region.ready md ops L = [] → Q .normal a w) ∧ ∀ i ∈ Region.ready md ops L, wpOpIn F n P ops Q i (fun b u => (S u ∨ i ∈ T) ∧ heldF F n P md ops Q S T fuel (L.setIfInBounds i true) b u) a w
theorem heldF.any : ∀ (fuel : Nat) (L : Array Bool) (a : Act) (w : World), heldF F n P md ops Q S T fuel L a w → wpAnyIn F n P md ops Q fuel L a w
  | 0, _, _, _, h => h
  | fuel + 1, _, _, _, h => ⟨h.1, fun i hi => wpOpIn_mono (fun a' w' h' => heldF.any fuel _ a' w' h'.2) (h.2 i hi)⟩
theorem region_tailF (S : World → Prop) (T : List Nat) {id : Nat} {a : Act} {w : World} (hm : P.follows .mixedOrders = true) (hS : S w.drew)
    (h : S w.drew → heldF F n P .any ops Q S T ops.size (Array.replicate ops.size false) a w.drew) : (Code.region id ops true).wpIn F n P Q a w :=
  wpIn_region_any hm (heldF.any _ _ _ _ (h hS))
theorem heldF.done {L : Array Bool} {a : Act} {w : World} (hr : Region.ready md ops L = []) (h : Q .normal a w) : ∀ fuel, heldF F n P md ops Q S T fuel L a w
  | 0 => ⟨hr, h⟩
  | _ + 1 => ⟨fun _ => h, by rw [hr]; simp⟩
/-- The only one that may come up is carried out. -/
theorem heldF.one {i : Nat} {o : Oper} {fuel : Nat} {L : Array Bool} {a : Act} {w : World} (hr : Region.ready md ops L = [i]) (ho : ops[i]? = some o)
    (h : ∀ K' : Act → World → Prop, Shut (∀ a w, (S w ∨ i ∈ T) → heldF F n P md ops Q S T fuel (L.setIfInBounds i true) a w → K' a w) → if Region.wanted o (yielded ops a.tmps) = true then Oper.wpIn F n P o a w K' Q else (∀ f, o.about P w a.eval = some f → F.fn f) ∧ K' (a.put o.dst undef) w) :
    heldF F n P md ops Q S T (fuel + 1) L a w := by
  refine ⟨fun h0 => (by rw [h0] at hr; cases hr), fun j hj => ?_⟩
  rw [hr] at hj
  rcases List.mem_cons.1 hj with rfl | hj
  · exact wpOpIn_step ho (fun K' hK => h K' (fun a w hS hW => hK a w ⟨hS, hW⟩))
  · cases hj
/-- M: numbers that can't come up yet, each of which waits for another one of them, or for number i. -/
theorem takeF_go {i : Nat} {x : Oper} {v : Value} (hro : F.round = none) (hi : ops[i]? = some x) (hsel : ∀ (j : Nat) (o : Oper) cs b, ops[j]? = some o → o.op ≠ .select cs b) (hQ : ∀ c a w, Q (.panic c) (a.put x.dst v) w → Q (.panic c) a w) (M : List Nat) (hT : ∀ j ∈ T, j ∈ M) (hM : ∀ m ∈ M, ∃ q, (q = i ∨ q ∈ M) ∧ Region.waitsFor md ops m q = true) :
    ∀ (fuel : Nat) (L : Array Bool) (a : Act) (w : World), (∀ j y, ops[j]? = some y → j ≠ i → L.getD j true = false → (∀ e ∈ y.after, Region.binds md e = true → e.on ≠ i) → x.apart ops y = true) →
      (∀ m ∈ M, L.getD m true = false) → i ∈ Region.ready md ops L → GivesF P ops S x v a → S w → heldF F n P md ops Q S T fuel (L.setIfInBounds i true) (a.put x.dst v) w → i ∉ T → heldF F n P md ops Q S T (fuel + 1) L a w := by
  intro fuel
  induction fuel with
  | zero =>
    intro L a w _ hm hr hx hS H hiT
    refine ⟨fun h0 => absurd hr (by rw [h0]; simp), fun j hj => ?_⟩
    rcases Nat.decEq j i with hne | heq
    · exact absurd (ready_mono hj hne) (by rw [H.1]; simp)
    · subst heq; exact hx.op hro hi hS ⟨.inl hS, H⟩
  | succ fuel ih =>
    intro L a w hfree hm hr hx hS H hiT
    refine ⟨fun h0 => absurd hr (by rw [h0]; simp), fun j hj => ?_⟩
    rcases Nat.decEq j i with hne | heq
    · obtain ⟨hLj, y, hy, hall⟩ := mem_ready.1 hj
      have hLi := (mem_ready.1 hr).1
      have hno : ∀ q, L.getD q true = false → ∀ e ∈ y.after, Region.binds md e = true → e.on ≠ q := fun q hLq e he hb heq => by
        have h1 := hall e he hb
        rw [heq] at h1
        by_cases hlt : q < L.size
        · simp [hlt] at hLq h1; rw [hLq] at h1; cases h1
        · simp [Array.getElem?_eq_none (Nat.le_of_not_lt hlt)] at h1
      have hjM : j ∉ M := fun hjm => by
        obtain ⟨q, hq, hwq⟩ := hM j hjm
        have hLq : L.getD q true = false := by
          rcases hq with rfl | hq
          · exact hLi
          · exact hm q hq
        obtain ⟨oj, ho, e, he, hb, hon⟩ := Region.waitsFor_spec hwq
        rw [hy] at ho
        injection ho with ho
        subst ho
        exact hno q hLq e he hb hon
      have hjT : ¬ j ∈ T := fun h => hjM (hT j h)
      have h2 := GivesF.pass hro hy (hfree j y hy hne hLj (hno i hLi)) (fun cs b => hsel i x cs b hi) (fun cs b => hsel j y cs b hy) hQ hx (H.2 j (ready_mono hj hne))
      refine wpOpIn_mono (fun b u hb => ⟨hb.2.1, ih _ b u ?_ (fun m hmM => by rw [getD_set_ne true (show j ≠ m from fun (e : j = m) => hjM (by rw [e]; exact hmM))]; exact hm m hmM) (ready_mono hr (Ne.symm hne)) hb.1 (hb.2.1.resolve_right hjT) ?_ hiT⟩) h2
      · intro k z hz hki hun hnz
        refine hfree k z hz hki ?_ hnz
        rcases Nat.decEq j k with hjk | hjk
        · rw [getD_set_ne true hjk] at hun; exact hun
        · subst hjk; exact hLj
      · rw [Array.setIfInBounds_comm _ _ hne]; exact hb.2.2
    · subst heq; exact hx.op hro hi hS ⟨.inl hS, H⟩
/-- What takeF asks of M. -/
def lateOk (md : Region.Mode) (ops : Array Oper) (T M : List Nat) (i : Nat) (L : Array Bool) : Bool :=
  T.all (fun j => M.contains j) && M.all (fun m => (i :: M).any fun q => Region.waitsFor md ops m q) && M.all (fun m => L.getD m true == false) && !T.contains i
/-- Number i is taken first. -/
theorem takeF (M : List Nat) {i : Nat} {x : Oper} {v : Value} {fuel : Nat} {L : Array Bool} {a : Act} {w : World} (hro : F.round = none) (hi : ops[i]? = some x) (hs : Region.noSelect ops = true) (hf : Region.free md ops L i = true) (hr : (Region.ready md ops L).contains i = true) (hM : lateOk md ops T M i L = true)
    (hQ : ∀ c a w, Q (.panic c) (a.put x.dst v) w → Q (.panic c) a w) (hx : YieldsIf P ops S x v a) (hb : ∀ w, x.about P w a.eval = none) (hS : S w) (h : heldF F n P md ops Q S T fuel (L.setIfInBounds i true) (a.put x.dst v) w) : heldF F n P md ops Q S T (fuel + 1) L a w := by
  simp only [lateOk, Bool.and_eq_true, List.all_eq_true, List.any_eq_true, List.contains_iff_mem, beq_iff_eq, Bool.not_eq_true', List.mem_cons] at hM
  exact takeF_go hro hi (Region.noSelect_spec hs) hQ M hM.1.1.1 hM.1.1.2 fuel L a w (Region.free_spec hi hf) hM.1.2 (by simpa using hr) ⟨hx, hb⟩ hS h (by have := hM.2; simpa using this)
end
end
section
set_option linter.unusedSimpArgs false
set_option linter.unusedVariables false
open Go.RowKit Go.Sort Go.Maps Go.Shelf
open Sgn
attribute [local go_sem] Oper.semAt_some

theorem nm_le11 (n : Int) : (nm n).length ≤ 11 := by
  unfold nm
  split
  · rename_i h
    have := itoa_len h.1 h.2
    simp [Lib.repeatL_length]
    omega
  · simp
theorem ite_yes {b : Bool} {p q : Prop} (h : b = true) (hp : p) : if b = true then p else q := by rw [if_pos h]; exact hp
theorem ite_no {b : Bool} {p q : Prop} (h : b = false) (hq : q) : if b = true then p else q := by rw [if_neg (by rw [h]; simp)]; exact hq
theorem gone_le {seq : Int} : ∀ {l : List Int} {k : Nat}, k < (l.takeWhile fun x => decide (x ≤ seq)).length → l.getD k 0 ≤ seq
  | [], k, h => absurd h (by simp)
  | x :: r, k, h => by
    by_cases hx : x ≤ seq
    · rw [List.takeWhile_cons_of_pos (by simpa using hx)] at h
      cases k with
      | zero => simpa using hx
      | succ k =>
        have := gone_le (l := r) (k := k) (by simpa using h)
        simpa using this
    · rw [List.takeWhile_cons_of_neg (by simpa using hx)] at h
      exact absurd h (by simp)
theorem gone_gt {seq : Int} : ∀ {l : List Int}, (l.takeWhile fun x => decide (x ≤ seq)).length < l.length → seq < l.getD (l.takeWhile fun x => decide (x ≤ seq)).length 0
  | [], h => absurd h (by simp)
  | x :: r, h => by
    by_cases hx : x ≤ seq
    · rw [List.takeWhile_cons_of_pos (by simpa using hx)] at h ⊢
      have := gone_gt (seq := seq) (l := r) (by simpa using h)
      simpa using this
    · rw [List.takeWhile_cons_of_neg (by simpa using hx)]
      simp; omega
theorem tail_getD (l : List Int) (k : Nat) : l.tail.getD k 0 = l.getD (k + 1) 0 := by
  cases l <;> simp
set_option linter.unusedSimpArgs false in
set_option maxRecDepth 100000 in
set_option maxHeartbeats 4000000 in
theorem behind_tells {w wb : World} {lp bl bs m sc : Nat} {sa : Option Addr} (segs : List Int) (seq : Int) (hb0 : Laid wb) (hl : wb.cell? ⟨bl, 0, none⟩ = some (.pointer (some ⟨lp, 0, none⟩))) (hs : wb.cell? ⟨bs, 0, none⟩ = some (.int .i64 seq)) (c2 : wb.cell? ⟨lp, 2, none⟩ = some (.slice sa m sc))
    (hr : Row wb wb.heap.size sa m sc 1 (intsC segs)) (hm : segs.length = m) (hm0 : 0 < m) (hm6 : m ≤ 1000) (names : List (List UInt8)) (hn : names = (segs.take (segs.tail.takeWhile fun x => decide (x ≤ seq)).length).map nm) :
    TellsV Fence.wide 11 Tryz.prog 128 #[.pointer (some ⟨bl, 0, none⟩), .pointer (some ⟨bs, 0, none⟩)] encS (fun pre x => shortS x ∧ ∃ post, names = (pre ++ [x]) ++ post) (fun _ (_ : Unit) X => Below wb.heap.size wb X) (fun _ _ _ _ => True) (· = names) (fun pre => ∃ post, names = pre ++ post) w := by
  intro l J Jx W d0 hBW _ hJ hU hY h0
  have hbl := block_lt_of_cell hl
  have hbs := block_lt_of_cell hs
  have hb2 := block_lt_of_cell c2
  obtain ⟨N, hN⟩ : ∃ N, N = (segs.tail.takeWhile fun x => decide (x ≤ seq)).length := ⟨_, rfl⟩
  rw [← hN] at hn
  have CE : Hid (∀ X, Below wb.heap.size wb X → X.cell? ⟨bl, 0, none⟩ = some (.pointer (some ⟨lp, 0, none⟩)) ∧ X.cell? ⟨bs, 0, none⟩ = some (.int .i64 seq) ∧ X.cell? ⟨lp, 2, none⟩ = some (.slice sa m sc) ∧ Row X wb.heap.size sa m sc 1 (intsC segs)) := fun X hX =>
    ⟨(hX.cell (p := ⟨bl, 0, none⟩) hbl).trans hl, (hX.cell (p := ⟨bs, 0, none⟩) hbs).trans hs, (hX.cell (p := ⟨lp, 2, none⟩) hb2).trans c2, hr.below hX (Nat.le_refl _)⟩
  have HT1 : Hid (∀ k, k + 1 < m → k < N → segs.getD (k + 1) 0 ≤ seq) := fun k h1 h2 => by rw [hN] at h2; rw [← tail_getD]; exact gone_le h2
  have HT2 : Hid (∀ k, k + 1 < m → k = N → seq < segs.getD (k + 1) 0) := fun k h1 h2 => by
    subst h2
    have := gone_gt (seq := seq) (l := segs.tail) (by rw [← hN, List.length_tail]; omega)
    rw [← hN, tail_getD] at this
    exact this
  have HNm : Hid (N < m) := by
    show N < m
    rw [hN]
    have h1 := (List.takeWhile_prefix (p := fun x => decide (x ≤ seq)) (l := segs.tail)).length_le
    rw [List.length_tail] at h1
    omega
  have HY := Lib.hid (And.intro hJ (And.intro hU (And.intro hY hn)))
  have hrl := hr.le
  have hrm := hr.max
  unfold maxLen at hrm
  obtain ⟨hcl, hcs, hc2, _⟩ := CE.out _ (HY.out.2.1 _ _ _ h0)
  have HMM := Lib.hid hm
  have hw1 : IntKind.i64.wrap ((m : Int) - 1) = ((m - 1 : Nat) : Int) := by rw [IntKind.wrap_i64]; omega
  clear hl hs c2 hr hbl hbs hb2 hU hJ hY hn hN hm
  refine callsIn_of_wp Tryz.func128 rfl trivial ?_ rfl
  simp only [Tryz.ntmps128, List.size_toArray, List.length_cons, List.length_nil, Nat.reduceAdd, Nat.reduceSub, Array.replicate_succ, Array.replicate_zero, List.push_toArray, List.append_toArray, List.nil_append, List.cons_append]
  gi_wp2
  gi_loopw [4, 11] (fun _ i wr => ∃ (k : Nat) (d : Unit), k ≤ m - 1 ∧ k ≤ N ∧ i = .int .i64 (k : Int) ∧ J ((segs.take k).map nm) d wr) (fun _ i _ => m - (intOf i).toNat)
  case atStart => exact ⟨0, d0, Nat.zero_le _, Nat.zero_le _, rfl, h0⟩
  case round =>
    obtain ⟨k, d, hk, hkN, rfl, hJs⟩ := hrel
    have hB := HY.out.2.1 _ _ _ hJs
    obtain ⟨hcl, hcs, hc2, hrr⟩ := CE.out _ hB
    have hNm := HNm.out
    by_cases hlt : k < m - 1
    · have hlt' : (k : Int) < ((m - 1 : Nat) : Int) := by omega
      have hlt2 : (k : Int) < (m : Int) := by omega
      have hlt3 : ((k + 1 : Nat) : Int) < (m : Int) := by omega
      have hk0 : (0 : Int) ≤ (k : Int) := by omega
      have hk1 : (0 : Int) ≤ ((k + 1 : Nat) : Int) := by omega
      have hw2 : IntKind.i64.wrap ((k : Int) + 1) = ((k + 1 : Nat) : Int) := by rw [IntKind.wrap_i64]; omega
      have hkn : ((k + 1 : Nat) : Int).toNat = k + 1 := by omega
      obtain ⟨b, o, rfl, hbl, hc⟩ := hrr.at_ (by omega)
      have e0 : wr.cell? ⟨b, o + k, none⟩ = some (.int .i64 (segs.getD k 0)) := hc k (by omega)
      have e1 : wr.cell? ⟨b, o + (k + 1), none⟩ = some (.int .i64 (segs.getD (k + 1) 0)) := hc (k + 1) (by omega)
      have t1 := HT1.out k (by omega)
      have t2 := HT2.out k (by omega)
      have NM := Lib.hid (fun X (hX : Below wb.heap.size wb X) => name_any (segs.getD k 0) X (hb0.on hX))
      have HBB := Lib.hid hB
      have HSn : Hid ((segs.take (k + 1)).map nm = (segs.take k).map nm ++ [nm (segs.getD k 0)]) := by
        show _ = _
        rw [List.take_succ_eq_append_getElem (by have := HMM.out; omega), List.map_append, List.getD_eq_getElem?_getD, List.getElem?_eq_getElem (by have := HMM.out; omega)]
        rfl
      have HK := Lib.hid (And.intro hk (And.intro hkN hlt))
      have HJS := Lib.hid hJs
      have HTT : Hid (k < N → (segs.take N).take (k + 1) = segs.take (k + 1)) := fun h => by rw [List.take_take, Nat.min_eq_left (by omega)]
      obtain ⟨k1, hk1e⟩ : ∃ k1, k1 = k + 1 := ⟨_, rfl⟩
      rw [← hk1e] at hlt3 hk1 hw2 hkn e1 t1 t2 HSn HTT
      have HK1 := Lib.hid hk1e
      clear hk1e
      generalize segs.getD k1 0 = y at e1 t1 t2
      generalize hx : segs.getD k 0 = x at e0 NM HSn
      clear hc hrr hkN hk hJs hNm hlt hB
      have S0 : Below wr.heap.size wr wr.drew := Below.drew (Below.refl _ _)
      have HC : Hid (∀ X, Below wr.heap.size wr X → X.cell? ⟨bl, 0, none⟩ = some (.pointer (some ⟨lp, 0, none⟩)) ∧ X.cell? ⟨bs, 0, none⟩ = some (.int .i64 seq) ∧ X.cell? ⟨lp, 2, none⟩ = some (.slice (some ⟨b, o, none⟩) m sc) ∧ X.cell? ⟨b, o + k, none⟩ = some (.int .i64 x) ∧ X.cell? ⟨b, o + k1, none⟩ = some (.int .i64 y)) := fun X hX =>
        ⟨(hX.cell (p := ⟨bl, 0, none⟩) (block_lt_of_cell hcl)).trans hcl, (hX.cell (p := ⟨bs, 0, none⟩) (block_lt_of_cell hcs)).trans hcs, (hX.cell (p := ⟨lp, 2, none⟩) (block_lt_of_cell hc2)).trans hc2, (hX.cell (p := ⟨b, o + k, none⟩) (block_lt_of_cell e0)).trans e0, (hX.cell (p := ⟨b, o + k1, none⟩) (block_lt_of_cell e1)).trans e1⟩
      have SS := HC.out _ S0
      by_cases hgt : seq < y
      · have hgt' : decide (seq < y) = true := decide_eq_true hgt
        gi_wp2_with fail
        refine region_tailF (S := fun X => X.cell? ⟨bl, 0, none⟩ = some (.pointer (some ⟨lp, 0, none⟩)) ∧ X.cell? ⟨bs, 0, none⟩ = some (.int .i64 seq) ∧ X.cell? ⟨lp, 2, none⟩ = some (.slice (some ⟨b, o, none⟩) m sc) ∧ X.cell? ⟨b, o + k, none⟩ = some (.int .i64 x) ∧ X.cell? ⟨b, o + k1, none⟩ = some (.int .i64 y)) [20, 21, 22] (by kernel_rfl) SS (fun hHeld => ?_)
        refine takeF [1,2,3,6,7,9,10,11,20,21,22] (i := 0) (v := ?_) rfl rfl (by kernel_rfl) (by kernel_rfl) (by kernel_rfl) (by kernel_rfl) (fun _ _ _ h => h) (Or.inl ⟨by rfl, ?_⟩) (fun _ => rfl) (by assumption) ?_
        rotate_left
        · intro w hSw
          (try dsimp only at hSw)
          go_simp
          all_goals with_reducible rfl
        try simp only [Act.put, List.getElem_toArray, List.getElem_cons_succ, List.getElem_cons_zero, List.setIfInBounds_toArray, List.set_cons_zero, List.set_cons_succ]
        refine takeF [2,3,6,7,9,10,11,20,21,22] (i := 1) (v := ?_) rfl rfl (by kernel_rfl) (by kernel_rfl) (by kernel_rfl) (by kernel_rfl) (fun _ _ _ h => h) (Or.inl ⟨by rfl, ?_⟩) (fun _ => rfl) (by assumption) ?_
        rotate_left
        · intro w hSw
          (try dsimp only at hSw)
          go_simp
          all_goals with_reducible rfl
        try simp only [Act.put, List.getElem_toArray, List.getElem_cons_succ, List.getElem_cons_zero, List.setIfInBounds_toArray, List.set_cons_zero, List.set_cons_succ]
        refine takeF [3,6,7,9,10,11,20,21,22] (i := 2) (v := ?_) rfl rfl (by kernel_rfl) (by kernel_rfl) (by kernel_rfl) (by kernel_rfl) (fun _ _ _ h => h) (Or.inl ⟨by rfl, ?_⟩) (fun _ => rfl) (by assumption) ?_
        rotate_left
        · intro w hSw
          (try dsimp only at hSw)
          go_simp
          all_goals with_reducible rfl
        try simp only [Act.put, List.getElem_toArray, List.getElem_cons_succ, List.getElem_cons_zero, List.setIfInBounds_toArray, List.set_cons_zero, List.set_cons_succ]
        refine takeF [6,7,9,10,11,20,21,22] (i := 3) (v := ?_) rfl rfl (by kernel_rfl) (by kernel_rfl) (by kernel_rfl) (by kernel_rfl) (fun _ _ _ h => h) (Or.inl ⟨by rfl, ?_⟩) (fun _ => rfl) (by assumption) ?_
        rotate_left
        · intro w hSw
          (try dsimp only at hSw)
          go_simp
          all_goals with_reducible rfl
        try simp only [Act.put, List.getElem_toArray, List.getElem_cons_succ, List.getElem_cons_zero, List.setIfInBounds_toArray, List.set_cons_zero, List.set_cons_succ]
        refine takeF [5,6,7,9,10,11,20,21,22] (i := 4) (v := ?_) rfl rfl (by kernel_rfl) (by kernel_rfl) (by kernel_rfl) (by kernel_rfl) (fun _ _ _ h => h) (Or.inl ⟨by rfl, ?_⟩) (fun _ => rfl) (by assumption) ?_
        rotate_left
        · intro w hSw
          (try dsimp only at hSw)
          go_simp
          all_goals with_reducible rfl
        try simp only [Act.put, List.getElem_toArray, List.getElem_cons_succ, List.getElem_cons_zero, List.setIfInBounds_toArray, List.set_cons_zero, List.set_cons_succ]
        refine takeF [6,7,9,10,11,20,21,22] (i := 5) (v := ?_) rfl rfl (by kernel_rfl) (by kernel_rfl) (by kernel_rfl) (by kernel_rfl) (fun _ _ _ h => h) (Or.inl ⟨by rfl, ?_⟩) (fun _ => rfl) (by assumption) ?_
        rotate_left
        · intro w hSw
          (try dsimp only at hSw)
          go_simp
          all_goals with_reducible rfl
        try simp only [Act.put, List.getElem_toArray, List.getElem_cons_succ, List.getElem_cons_zero, List.setIfInBounds_toArray, List.set_cons_zero, List.set_cons_succ]
        refine takeF [7,9,10,11,20,21,22] (i := 6) (v := ?_) rfl rfl (by kernel_rfl) (by kernel_rfl) (by kernel_rfl) (by kernel_rfl) (fun _ _ _ h => h) (Or.inl ⟨by rfl, ?_⟩) (fun _ => rfl) (by assumption) ?_
        rotate_left
        · intro w hSw
          (try dsimp only at hSw)
          go_simp
          all_goals with_reducible rfl
        try simp only [Act.put, List.getElem_toArray, List.getElem_cons_succ, List.getElem_cons_zero, List.setIfInBounds_toArray, List.set_cons_zero, List.set_cons_succ]
        refine takeF [9,10,11,20,21,22] (i := 7) (v := ?_) rfl rfl (by kernel_rfl) (by kernel_rfl) (by kernel_rfl) (by kernel_rfl) (fun _ _ _ h => h) (Or.inl ⟨by rfl, ?_⟩) (fun _ => rfl) (by assumption) ?_
        rotate_left
        · intro w hSw
          (try dsimp only at hSw)
          go_simp
          all_goals with_reducible rfl
        try simp only [Act.put, List.getElem_toArray, List.getElem_cons_succ, List.getElem_cons_zero, List.setIfInBounds_toArray, List.set_cons_zero, List.set_cons_succ]
        refine takeF [9,10,11,20,21,22] (i := 8) (v := ?_) rfl rfl (by kernel_rfl) (by kernel_rfl) (by kernel_rfl) (by kernel_rfl) (fun _ _ _ h => h) (Or.inl ⟨by rfl, ?_⟩) (fun _ => rfl) (by assumption) ?_
        rotate_left
        · intro w hSw
          (try dsimp only at hSw)
          go_simp
          all_goals with_reducible rfl
        try simp only [Act.put, List.getElem_toArray, List.getElem_cons_succ, List.getElem_cons_zero, List.setIfInBounds_toArray, List.set_cons_zero, List.set_cons_succ]
        refine takeF [10,11,20,21,22] (i := 9) (v := ?_) rfl rfl (by kernel_rfl) (by kernel_rfl) (by kernel_rfl) (by kernel_rfl) (fun _ _ _ h => h) (Or.inl ⟨by rfl, ?_⟩) (fun _ => rfl) (by assumption) ?_
        rotate_left
        · intro w hSw
          (try dsimp only at hSw)
          go_simp
          all_goals with_reducible rfl
        try simp only [Act.put, List.getElem_toArray, List.getElem_cons_succ, List.getElem_cons_zero, List.setIfInBounds_toArray, List.set_cons_zero, List.set_cons_succ]
        refine takeF [11,20,21,22] (i := 10) (v := ?_) rfl rfl (by kernel_rfl) (by kernel_rfl) (by kernel_rfl) (by kernel_rfl) (fun _ _ _ h => h) (Or.inl ⟨by rfl, ?_⟩) (fun _ => rfl) (by assumption) ?_
        rotate_left
        · intro w hSw
          (try dsimp only at hSw)
          go_simp
          all_goals with_reducible rfl
        try simp only [Act.put, List.getElem_toArray, List.getElem_cons_succ, List.getElem_cons_zero, List.setIfInBounds_toArray, List.set_cons_zero, List.set_cons_succ]
        refine takeF [20,21,22] (i := 11) (v := undef) rfl rfl (by kernel_rfl) (by kernel_rfl) (by kernel_rfl) (by kernel_rfl) (fun _ _ _ h => h) (Or.inr ⟨by rfl, rfl⟩) (fun _ => rfl) (by assumption) ?_
        try simp only [Act.put, List.getElem_toArray, List.getElem_cons_succ, List.getElem_cons_zero, List.setIfInBounds_toArray, List.set_cons_zero, List.set_cons_succ]
        refine takeF [13,14,15,17,18,19,20,21,22] (i := 12) (v := undef) rfl rfl (by kernel_rfl) (by kernel_rfl) (by kernel_rfl) (by kernel_rfl) (fun _ _ _ h => h) (Or.inr ⟨by rfl, rfl⟩) (fun _ => rfl) (by assumption) ?_
        try simp only [Act.put, List.getElem_toArray, List.getElem_cons_succ, List.getElem_cons_zero, List.setIfInBounds_toArray, List.set_cons_zero, List.set_cons_succ]
        refine takeF [14,15,17,18,19,20,21,22] (i := 13) (v := undef) rfl rfl (by kernel_rfl) (by kernel_rfl) (by kernel_rfl) (by kernel_rfl) (fun _ _ _ h => h) (Or.inr ⟨by rfl, rfl⟩) (fun _ => rfl) (by assumption) ?_
        try simp only [Act.put, List.getElem_toArray, List.getElem_cons_succ, List.getElem_cons_zero, List.setIfInBounds_toArray, List.set_cons_zero, List.set_cons_succ]
        refine takeF [15,17,18,19,20,21,22] (i := 14) (v := undef) rfl rfl (by kernel_rfl) (by kernel_rfl) (by kernel_rfl) (by kernel_rfl) (fun _ _ _ h => h) (Or.inr ⟨by rfl, rfl⟩) (fun _ => rfl) (by assumption) ?_
        try simp only [Act.put, List.getElem_toArray, List.getElem_cons_succ, List.getElem_cons_zero, List.setIfInBounds_toArray, List.set_cons_zero, List.set_cons_succ]
        refine takeF [17,18,19,20,21,22] (i := 15) (v := undef) rfl rfl (by kernel_rfl) (by kernel_rfl) (by kernel_rfl) (by kernel_rfl) (fun _ _ _ h => h) (Or.inr ⟨by rfl, rfl⟩) (fun _ => rfl) (by assumption) ?_
        try simp only [Act.put, List.getElem_toArray, List.getElem_cons_succ, List.getElem_cons_zero, List.setIfInBounds_toArray, List.set_cons_zero, List.set_cons_succ]
        refine takeF [17,18,19,20,21,22] (i := 16) (v := undef) rfl rfl (by kernel_rfl) (by kernel_rfl) (by kernel_rfl) (by kernel_rfl) (fun _ _ _ h => h) (Or.inr ⟨by rfl, rfl⟩) (fun _ => rfl) (by assumption) ?_
        try simp only [Act.put, List.getElem_toArray, List.getElem_cons_succ, List.getElem_cons_zero, List.setIfInBounds_toArray, List.set_cons_zero, List.set_cons_succ]
        refine takeF [18,19,20,21,22] (i := 17) (v := undef) rfl rfl (by kernel_rfl) (by kernel_rfl) (by kernel_rfl) (by kernel_rfl) (fun _ _ _ h => h) (Or.inr ⟨by rfl, rfl⟩) (fun _ => rfl) (by assumption) ?_
        try simp only [Act.put, List.getElem_toArray, List.getElem_cons_succ, List.getElem_cons_zero, List.setIfInBounds_toArray, List.set_cons_zero, List.set_cons_succ]
        refine takeF [19,20,21,22] (i := 18) (v := undef) rfl rfl (by kernel_rfl) (by kernel_rfl) (by kernel_rfl) (by kernel_rfl) (fun _ _ _ h => h) (Or.inr ⟨by rfl, rfl⟩) (fun _ => rfl) (by assumption) ?_
        try simp only [Act.put, List.getElem_toArray, List.getElem_cons_succ, List.getElem_cons_zero, List.setIfInBounds_toArray, List.set_cons_zero, List.set_cons_succ]
        refine heldF.one (i := 19) (by kernel_rfl) rfl (fun K hK => ?_)
        refine ite_no (by rfl) ⟨fun _ _ => trivial, ?_⟩
        refine hK.out _ _ (.inl hHeld) ?_
        clear hK K
        refine heldF.one (i := 20) (by kernel_rfl) rfl (fun K hK => ?_)
        refine ite_no (by rfl) ⟨fun _ _ => trivial, ?_⟩
        refine hK.out _ _ (.inr (by decide)) ?_
        clear hK K
        refine heldF.one (i := 21) (by kernel_rfl) rfl (fun K hK => ?_)
        refine ite_no (by rfl) ⟨fun _ _ => trivial, ?_⟩
        refine hK.out _ _ (.inr (by decide)) ?_
        clear hK K
        refine heldF.one (i := 22) (by kernel_rfl) rfl (fun K hK => ?_)
        refine ite_yes (by rfl) ?_
        gi_wp2_with fail
        refine hK.out _ _ (.inr (by decide)) ?_
        clear hK K
        refine heldF.done (by kernel_rfl) ?_ _
        have eN : N = k := by have h1 := HK.out.2.1; have := t1; omega
        have HE := Lib.hid eN
        clear t1 t2 eN hHeld SS
        gi_wp2
        refine bodyPost_ret (results_none rfl _ _ _) rfl ?_
        exact ⟨⟨_, rfl⟩, .inl ⟨_, d, by rw [HY.out.2.2.2, HE.out], HY.out.1 _ _ _ _ HJS.out S0⟩⟩
      · have hgt' : decide (seq < y) = false := decide_eq_false hgt
        have HG : Hid (k < N) := by
          show k < N
          have h1 := HK.out.2.1
          rcases Nat.lt_or_ge k N with h2 | h2
          · exact h2
          · exact absurd (t2 (by omega)) hgt
        have HTT := Lib.hid (HTT.out HG.out)
        gi_wp2_with fail
        refine region_tailF (S := fun X => Below wr.heap.size wr X ∧ X.cell? ⟨bl, 0, none⟩ = some (.pointer (some ⟨lp, 0, none⟩)) ∧ X.cell? ⟨bs, 0, none⟩ = some (.int .i64 seq) ∧ X.cell? ⟨lp, 2, none⟩ = some (.slice (some ⟨b, o, none⟩) m sc) ∧ X.cell? ⟨b, o + k, none⟩ = some (.int .i64 x) ∧ X.cell? ⟨b, o + k1, none⟩ = some (.int .i64 y)) [20, 21, 22] (by kernel_rfl) ⟨S0, SS⟩ (fun hHeld => ?_)
        refine takeF [1,2,3,6,7,9,10,11,20,21,22] (i := 0) (v := ?_) rfl rfl (by kernel_rfl) (by kernel_rfl) (by kernel_rfl) (by kernel_rfl) (fun _ _ _ h => h) (Or.inl ⟨by rfl, ?_⟩) (fun _ => rfl) (by assumption) ?_
        rotate_left
        · intro w hSw
          (try dsimp only at hSw)
          go_simp
          all_goals with_reducible rfl
        try simp only [Act.put, List.getElem_toArray, List.getElem_cons_succ, List.getElem_cons_zero, List.setIfInBounds_toArray, List.set_cons_zero, List.set_cons_succ]
        refine takeF [2,3,6,7,9,10,11,20,21,22] (i := 1) (v := ?_) rfl rfl (by kernel_rfl) (by kernel_rfl) (by kernel_rfl) (by kernel_rfl) (fun _ _ _ h => h) (Or.inl ⟨by rfl, ?_⟩) (fun _ => rfl) (by assumption) ?_
        rotate_left
        · intro w hSw
          (try dsimp only at hSw)
          go_simp
          all_goals with_reducible rfl
        try simp only [Act.put, List.getElem_toArray, List.getElem_cons_succ, List.getElem_cons_zero, List.setIfInBounds_toArray, List.set_cons_zero, List.set_cons_succ]
        refine takeF [3,6,7,9,10,11,20,21,22] (i := 2) (v := ?_) rfl rfl (by kernel_rfl) (by kernel_rfl) (by kernel_rfl) (by kernel_rfl) (fun _ _ _ h => h) (Or.inl ⟨by rfl, ?_⟩) (fun _ => rfl) (by assumption) ?_
        rotate_left
        · intro w hSw
          (try dsimp only at hSw)
          go_simp
          all_goals with_reducible rfl
        try simp only [Act.put, List.getElem_toArray, List.getElem_cons_succ, List.getElem_cons_zero, List.setIfInBounds_toArray, List.set_cons_zero, List.set_cons_succ]
        refine takeF [6,7,9,10,11,20,21,22] (i := 3) (v := ?_) rfl rfl (by kernel_rfl) (by kernel_rfl) (by kernel_rfl) (by kernel_rfl) (fun _ _ _ h => h) (Or.inl ⟨by rfl, ?_⟩) (fun _ => rfl) (by assumption) ?_
        rotate_left
        · intro w hSw
          (try dsimp only at hSw)
          go_simp
          all_goals with_reducible rfl
        try simp only [Act.put, List.getElem_toArray, List.getElem_cons_succ, List.getElem_cons_zero, List.setIfInBounds_toArray, List.set_cons_zero, List.set_cons_succ]
        refine takeF [5,6,7,9,10,11,20,21,22] (i := 4) (v := ?_) rfl rfl (by kernel_rfl) (by kernel_rfl) (by kernel_rfl) (by kernel_rfl) (fun _ _ _ h => h) (Or.inl ⟨by rfl, ?_⟩) (fun _ => rfl) (by assumption) ?_
        rotate_left
        · intro w hSw
          (try dsimp only at hSw)
          go_simp
          all_goals with_reducible rfl
        try simp only [Act.put, List.getElem_toArray, List.getElem_cons_succ, List.getElem_cons_zero, List.setIfInBounds_toArray, List.set_cons_zero, List.set_cons_succ]
        refine takeF [6,7,9,10,11,20,21,22] (i := 5) (v := ?_) rfl rfl (by kernel_rfl) (by kernel_rfl) (by kernel_rfl) (by kernel_rfl) (fun _ _ _ h => h) (Or.inl ⟨by rfl, ?_⟩) (fun _ => rfl) (by assumption) ?_
        rotate_left
        · intro w hSw
          (try dsimp only at hSw)
          go_simp
          all_goals with_reducible rfl
        try simp only [Act.put, List.getElem_toArray, List.getElem_cons_succ, List.getElem_cons_zero, List.setIfInBounds_toArray, List.set_cons_zero, List.set_cons_succ]
        refine takeF [7,9,10,11,20,21,22] (i := 6) (v := ?_) rfl rfl (by kernel_rfl) (by kernel_rfl) (by kernel_rfl) (by kernel_rfl) (fun _ _ _ h => h) (Or.inl ⟨by rfl, ?_⟩) (fun _ => rfl) (by assumption) ?_
        rotate_left
        · intro w hSw
          (try dsimp only at hSw)
          go_simp
          all_goals with_reducible rfl
        try simp only [Act.put, List.getElem_toArray, List.getElem_cons_succ, List.getElem_cons_zero, List.setIfInBounds_toArray, List.set_cons_zero, List.set_cons_succ]
        refine takeF [9,10,11,20,21,22] (i := 7) (v := ?_) rfl rfl (by kernel_rfl) (by kernel_rfl) (by kernel_rfl) (by kernel_rfl) (fun _ _ _ h => h) (Or.inl ⟨by rfl, ?_⟩) (fun _ => rfl) (by assumption) ?_
        rotate_left
        · intro w hSw
          (try dsimp only at hSw)
          go_simp
          all_goals with_reducible rfl
        try simp only [Act.put, List.getElem_toArray, List.getElem_cons_succ, List.getElem_cons_zero, List.setIfInBounds_toArray, List.set_cons_zero, List.set_cons_succ]
        refine takeF [9,10,11,20,21,22] (i := 8) (v := ?_) rfl rfl (by kernel_rfl) (by kernel_rfl) (by kernel_rfl) (by kernel_rfl) (fun _ _ _ h => h) (Or.inl ⟨by rfl, ?_⟩) (fun _ => rfl) (by assumption) ?_
        rotate_left
        · intro w hSw
          (try dsimp only at hSw)
          go_simp
          all_goals with_reducible rfl
        try simp only [Act.put, List.getElem_toArray, List.getElem_cons_succ, List.getElem_cons_zero, List.setIfInBounds_toArray, List.set_cons_zero, List.set_cons_succ]
        refine takeF [10,11,20,21,22] (i := 9) (v := ?_) rfl rfl (by kernel_rfl) (by kernel_rfl) (by kernel_rfl) (by kernel_rfl) (fun _ _ _ h => h) (Or.inl ⟨by rfl, ?_⟩) (fun _ => rfl) (by assumption) ?_
        rotate_left
        · intro w hSw
          (try dsimp only at hSw)
          go_simp
          all_goals with_reducible rfl
        try simp only [Act.put, List.getElem_toArray, List.getElem_cons_succ, List.getElem_cons_zero, List.setIfInBounds_toArray, List.set_cons_zero, List.set_cons_succ]
        refine takeF [11,20,21,22] (i := 10) (v := ?_) rfl rfl (by kernel_rfl) (by kernel_rfl) (by kernel_rfl) (by kernel_rfl) (fun _ _ _ h => h) (Or.inl ⟨by rfl, ?_⟩) (fun _ => rfl) (by assumption) ?_
        rotate_left
        · intro w hSw
          (try dsimp only at hSw)
          go_simp
          all_goals with_reducible rfl
        try simp only [Act.put, List.getElem_toArray, List.getElem_cons_succ, List.getElem_cons_zero, List.setIfInBounds_toArray, List.set_cons_zero, List.set_cons_succ]
        refine takeF [20,21,22] (i := 11) (v := ?_) rfl rfl (by kernel_rfl) (by kernel_rfl) (by kernel_rfl) (by kernel_rfl) (fun _ _ _ h => h) (Or.inl ⟨by rfl, ?_⟩) (fun _ => rfl) (by assumption) ?_
        rotate_left
        · intro w hSw
          (try dsimp only at hSw)
          go_simp
          all_goals with_reducible rfl
        try simp only [Act.put, List.getElem_toArray, List.getElem_cons_succ, List.getElem_cons_zero, List.setIfInBounds_toArray, List.set_cons_zero, List.set_cons_succ]
        refine takeF [13,14,15,17,18,19,20,21,22] (i := 12) (v := ?_) rfl rfl (by kernel_rfl) (by kernel_rfl) (by kernel_rfl) (by kernel_rfl) (fun _ _ _ h => h) (Or.inl ⟨by rfl, ?_⟩) (fun _ => rfl) (by assumption) ?_
        rotate_left
        · intro w hSw
          (try dsimp only at hSw)
          go_simp
          all_goals with_reducible rfl
        try simp only [Act.put, List.getElem_toArray, List.getElem_cons_succ, List.getElem_cons_zero, List.setIfInBounds_toArray, List.set_cons_zero, List.set_cons_succ]
        refine takeF [14,15,17,18,19,20,21,22] (i := 13) (v := ?_) rfl rfl (by kernel_rfl) (by kernel_rfl) (by kernel_rfl) (by kernel_rfl) (fun _ _ _ h => h) (Or.inl ⟨by rfl, ?_⟩) (fun _ => rfl) (by assumption) ?_
        rotate_left
        · intro w hSw
          (try dsimp only at hSw)
          go_simp
          all_goals with_reducible rfl
        try simp only [Act.put, List.getElem_toArray, List.getElem_cons_succ, List.getElem_cons_zero, List.setIfInBounds_toArray, List.set_cons_zero, List.set_cons_succ]
        refine takeF [15,17,18,19,20,21,22] (i := 14) (v := ?_) rfl rfl (by kernel_rfl) (by kernel_rfl) (by kernel_rfl) (by kernel_rfl) (fun _ _ _ h => h) (Or.inl ⟨by rfl, ?_⟩) (fun _ => rfl) (by assumption) ?_
        rotate_left
        · intro w hSw
          (try dsimp only at hSw)
          go_simp
          all_goals with_reducible rfl
        try simp only [Act.put, List.getElem_toArray, List.getElem_cons_succ, List.getElem_cons_zero, List.setIfInBounds_toArray, List.set_cons_zero, List.set_cons_succ]
        refine takeF [17,18,19,20,21,22] (i := 15) (v := ?_) rfl rfl (by kernel_rfl) (by kernel_rfl) (by kernel_rfl) (by kernel_rfl) (fun _ _ _ h => h) (Or.inl ⟨by rfl, ?_⟩) (fun _ => rfl) (by assumption) ?_
        rotate_left
        · intro w hSw
          (try dsimp only at hSw)
          go_simp
          all_goals with_reducible rfl
        try simp only [Act.put, List.getElem_toArray, List.getElem_cons_succ, List.getElem_cons_zero, List.setIfInBounds_toArray, List.set_cons_zero, List.set_cons_succ]
        refine takeF [17,18,19,20,21,22] (i := 16) (v := ?_) rfl rfl (by kernel_rfl) (by kernel_rfl) (by kernel_rfl) (by kernel_rfl) (fun _ _ _ h => h) (Or.inl ⟨by rfl, ?_⟩) (fun _ => rfl) (by assumption) ?_
        rotate_left
        · intro w hSw
          (try dsimp only at hSw)
          go_simp
          all_goals with_reducible rfl
        try simp only [Act.put, List.getElem_toArray, List.getElem_cons_succ, List.getElem_cons_zero, List.setIfInBounds_toArray, List.set_cons_zero, List.set_cons_succ]
        refine takeF [18,19,20,21,22] (i := 17) (v := ?_) rfl rfl (by kernel_rfl) (by kernel_rfl) (by kernel_rfl) (by kernel_rfl) (fun _ _ _ h => h) (Or.inl ⟨by rfl, ?_⟩) (fun _ => rfl) (by assumption) ?_
        rotate_left
        · intro w hSw
          (try dsimp only at hSw)
          go_simp
          all_goals with_reducible rfl
        try simp only [Act.put, List.getElem_toArray, List.getElem_cons_succ, List.getElem_cons_zero, List.setIfInBounds_toArray, List.set_cons_zero, List.set_cons_succ]
        refine takeF [19,20,21,22] (i := 18) (v := ?_) rfl rfl (by kernel_rfl) (by kernel_rfl) (by kernel_rfl) (by kernel_rfl) (fun _ _ _ h => h) (Or.inl ⟨by rfl, ?_⟩) (fun _ => rfl) (by assumption) ?_
        rotate_left
        · intro w hSw
          (try dsimp only at hSw)
          go_simp
          all_goals with_reducible rfl
        try simp only [Act.put, List.getElem_toArray, List.getElem_cons_succ, List.getElem_cons_zero, List.setIfInBounds_toArray, List.set_cons_zero, List.set_cons_succ]
        refine heldF.one (i := 19) (by kernel_rfl) rfl (fun K hK => ?_)
        refine ite_yes (by rfl) ?_
        gi_wp2_with fail
        refine ⟨trivial, (callsIn_wide.2 (NM.out _ (HBB.out.trans (S0.mono HBB.out.size)))).mono ?_⟩
        rintro e w2 ⟨rfl, b2⟩
        have S2 : Below wr.heap.size wr w2 := S0.trans (b2.mono S0.size)
        have SS2 := HC.out _ S2
        refine hK.out _ _ (.inl ⟨S2, SS2⟩) ?_
        clear hK K
        have hJ2 := HY.out.1 _ _ _ _ HJS.out S2
        have hpost : names = ((segs.take k).map nm ++ [nm x]) ++ ((segs.take N).drop k1).map nm := by
          rw [HY.out.2.2.2, ← HSn.out, ← List.map_append]; congr 1; rw [← HTT.out, List.take_append_drop]
        obtain ⟨fn, tmps, assign, body, hy, hR⟩ := HY.out.2.2.1 _ d (nm x) w2 hJ2 ⟨by show _ ≤ _; have := nm_le11 x; omega, _, hpost⟩
        have HP := Lib.hid hpost
        clear hpost
        simp only [encS] at hy
        have HR := Lib.hid hR
        clear hR hJ2
        refine heldF.one (i := 20) (by kernel_rfl) rfl (fun K hK => ?_)
        refine ite_yes (by rfl) ?_
        gi_wp2_with fail
        refine HR.out.mono ?_
        rintro e Y (⟨rfl, d', hJ4, _⟩ | ⟨rfl, hJx4⟩)
        · have H4 := Lib.hid hJ4
          clear hJ4 HR hy hHeld
          try simp only []
          refine hK.out _ _ (.inr (by decide)) ?_
          clear hK K
          try simp only [Act.put, List.getElem_toArray, List.getElem_cons_succ, List.getElem_cons_zero, List.setIfInBounds_toArray, List.set_cons_zero, List.set_cons_succ]
          refine heldF.one (i := 21) (by kernel_rfl) rfl (fun K hK => ?_)
          refine ite_yes (by rfl) ?_
          gi_wp2_with fail
          refine hK.out _ _ (.inr (by decide)) ?_
          clear hK K
          refine heldF.one (i := 22) (by kernel_rfl) rfl (fun K hK => ?_)
          refine ite_yes (by rfl) ?_
          gi_wp2_with fail
          refine hK.out _ _ (.inr (by decide)) ?_
          clear hK K
          refine heldF.done (by kernel_rfl) ?_ _
          clear SS2 SS t1 t2
          gi_wp2
          go_roundw
          case rel => exact ⟨k1, d', by have := HK.out; have := HK1.out; omega, by have := HK.out; have := HK1.out; have := HG.out; omega, by go_num, by rw [HSn.out] at *; exact H4.out⟩
          case measure => have := HK.out; have := HK1.out; simp [intOf]; omega
        · have H4 := Lib.hid hJx4
          clear hJx4 HR hy hHeld
          try simp only []
          refine hK.out _ _ (.inr (by decide)) ?_
          clear hK K
          try simp only [Act.put, List.getElem_toArray, List.getElem_cons_succ, List.getElem_cons_zero, List.setIfInBounds_toArray, List.set_cons_zero, List.set_cons_succ]
          refine heldF.one (i := 21) (by kernel_rfl) rfl (fun K hK => ?_)
          refine ite_yes (by rfl) ?_
          gi_wp2_with fail
          refine hK.out _ _ (.inr (by decide)) ?_
          clear hK K
          refine heldF.one (i := 22) (by kernel_rfl) rfl (fun K hK => ?_)
          refine ite_yes (by rfl) ?_
          gi_wp2_with fail
          refine hK.out _ _ (.inr (by decide)) ?_
          clear hK K
          refine heldF.done (by kernel_rfl) ?_ _
          clear SS2 SS t1 t2
          gi_wp2
          refine bodyPost_ret (results_none rfl _ _ _) rfl ?_
          exact ⟨⟨_, rfl⟩, .inr ⟨_, ⟨((segs.take N).drop k1).map nm, HP.out⟩, H4.out⟩⟩
    · have ek : k = m - 1 := by omega
      have hn1 : ¬ (k : Int) < ((m - 1 : Nat) : Int) := by omega
      have eN : N = k := by omega
      have HE := Lib.hid (And.intro hJs eN)
      clear hJs hrr ek eN
      gi_wp2
      go_end0
      exact ⟨⟨_, rfl⟩, .inl ⟨d, by rw [HY.out.2.2.2, HE.out.2]; exact HE.out.1⟩⟩
end
section
set_option linter.unusedSimpArgs false
set_option linter.unusedVariables false
open Go.RowKit Go.Sort Go.Maps Go.Shelf
attribute [local go_sem] Oper.semAt_some

abbrev strVs (l : List (List UInt8)) : List Value := l.map fun s => .string ⟨s.toArray⟩
theorem info_strY : (Tryz.prog.info? 9).map (fun i => (i.zero, i.size, i.bytes)) = some (some (.string ⟨#[]⟩), 1, 16) := by kernel_rfl
theorem OwnV.onY {X Y : World} {base : Nat} {e : TypeId} {v : Value} {us : List Value} (h : OwnV X base e v us) (hb : Below X.heap.size X Y) : OwnV Y base e v us :=
  World.ownsRow.kept (row := none) h ⟨hb.os, hb.tape, hb.output, hb.size, fun k hk _ => hb.block k hk⟩ (by cases v.ownBlock <;> simp)
theorem OwnV.putY {X : World} {base b : Nat} {e : TypeId} {v : Value} {us : List Value} (h : OwnV X base e v us) (o : Obj) (hb : b < base) : OwnV (X.putObj b o) base e v us :=
  World.ownsRow.kept (row := some b) h ⟨rfl, rfl, rfl, by simp [World.putObj], fun k _ hk => World.putObj_heap_other (fun e => hk (by rw [e]))⟩ (.inr (fun e => by
    have := (World.ownsRow.lt h b e).1; omega))
theorem OwnV.setY {X : World} {base : Nat} {p : Addr} {e : TypeId} {v u : Value} {us : List Value} (h : OwnV X base e v us) (hb : p.block < base) : OwnV (X.setCell p u) base e v us :=
  World.ownsRow.kept (row := some p.block) h ⟨rfl, rfl, rfl, by simp, fun k _ hk => Below.heap_setCell _ _ _ _ (fun e => hk (by rw [e]))⟩ (.inr (fun e => by
    have := (World.ownsRow.lt h p.block e).1; omega))
/-- What AppendSeq holds while names come: its box, and its own row. -/
def ApS (w : World) (pre : List (List UInt8)) (_ : Unit) (X : World) : Prop :=
  ∃ v, X.heap[w.heap.size]? = some (.cells #[v] 66 (0, 0)) ∧ OwnV X (w.heap.size + 3) 9 v (strVs pre) ∧ Below w.heap.size w X
theorem ApS.on {w X Y : World} {pre : List (List UInt8)} {d : Unit} (h : ApS w pre d X) (hb : Below X.heap.size X Y) : ApS w pre d Y := by
  obtain ⟨v, h1, h2, h3⟩ := h
  exact ⟨v, (hb.block _ (lt_of_heap h1)).trans h1, h2.onY hb, h3.trans (hb.mono h3.size)⟩
theorem below_putObj {w X : World} {B b : Nat} (h : Below B w X) (o : Obj) (hb : B ≤ b) : Below B w (X.putObj b o) :=
  ⟨h.os, h.tape, h.output, by have := h.size; simpa [World.putObj] using this, fun k hk => (World.putObj_heap_other (by omega)).trans (h.block k hk)⟩
theorem ApS.put {w X : World} {pre : List (List UInt8)} {d : Unit} (h : ApS w pre d X) (o : Obj) (b : Nat) (h1 : w.heap.size + 1 ≤ b) (h2 : b ≤ w.heap.size + 2) : ApS w pre d (X.putObj b o) := by
  obtain ⟨v, k1, k2, k3⟩ := h
  exact ⟨v, (World.putObj_heap_other (by omega)).trans k1, k2.putY o (by omega), below_putObj k3 o (by omega)⟩
theorem ownsRow_slice {w : World} {base s n : Nat} {e : TypeId} {v : Value} {us : List Value} (h : w.ownsRow base e s v n us) : ∃ a n c, v = .slice a n c := by
  rcases h.2 with ⟨h1, _⟩ | ⟨g, cap, cur, h1, _⟩
  · exact ⟨_, _, _, h1⟩
  · exact ⟨_, _, _, h1⟩
theorem cell_one {w : World} {a : Addr} {u : Value} (h : w.cell? a = some u) : ∀ j x, [u][j]? = some x → w.cell? (a.add j) = some x := fun j x hj => by
  cases j with
  | zero => simp at hj; subst hj; exact h
  | succ j => simp at hj
set_option linter.unusedSimpArgs false in
set_option maxRecDepth 100000 in
set_option maxHeartbeats 4000000 in
theorem appendSeq_any {w : World} (gf : FuncId) (lb : Array Value) (names : List (List UInt8)) (hlen : names.length ≤ 1000)
    (hgf : ∀ args x, (callFunc gf args).run Tryz.prog x = .ok (.enter gf args) x)
    (hit : ∀ W, TellsV Fence.wide 11 Tryz.prog gf lb encS (fun pre x => shortS x ∧ ∃ post, names = (pre ++ [x]) ++ post) (fun _ (_ : Unit) X => Below w.heap.size w X) (fun _ _ _ _ => True) (· = names) (fun pre => ∃ post, names = pre ++ post) W) :
    Calls Tryz.prog 127 #[.slice none 0 0, .func (.func gf) #[] lb] w fun e w' => ∃ v, e = .returned v ∧ OwnV w' (w.heap.size + 3) 9 v (strVs names) ∧ Below w.heap.size w w' := by
  refine (callsIn_wide (n := 12)).1 ?_
  refine callsIn_of_wp_marks Tryz.func127 rfl trivial ?_ rfl
  simp only [Tryz.ntmps127, List.size_toArray, List.length_cons, List.length_nil, Nat.reduceAdd, Nat.reduceSub, Array.replicate_succ, Array.replicate_zero, List.push_toArray, List.append_toArray, List.nil_append, List.cons_append]
  obtain ⟨W0, hW0⟩ : ∃ W0, W0 = w.alloc (.cells #[.slice none 0 0] 66) := ⟨_, rfl⟩
  have hB0 : Below w.heap.size w W0 := by rw [hW0]; exact (Below.refl _ w).alloc (Nat.le_refl _) _
  have hs0 : W0.heap.size = w.heap.size + 1 := by rw [hW0]; simp
  have hb0 : W0.heap[w.heap.size]? = some (.cells #[.slice none 0 0] 66 (0, 0)) := by rw [hW0]; exact heap_alloc_new _ _
  have hit0 := hit W0
  have HW0 := Lib.hid hW0
  have HH := Lib.hid (And.intro hB0 (And.intro hs0 hb0))
  clear hW0 hB0 hs0 hb0 hit
  gi_wp2_with fail
  rw [← HW0.out]
  refine range_tellsV rfl (by omega) (gf := gf) (lb := lb) rfl trivial hgf hit0 (fun _ => rfl) (ApS w)
    (fun _ _ _ => False) () (fun pre d X Y h hb => h.on hb) ?hI2 (fun _ _ _ _ _ _ _ => trivial) (fun _ _ _ _ _ h _ => h) (fun pre d X h => by obtain ⟨_, _, _, h3⟩ := h; exact h3) ?h0 (fun x => { tmps := #[.slice none 0 0, .func (.func gf) #[] lb, .pointer (some ⟨w.heap.size, 0, none⟩), undef, .slice none 0 0, .string ⟨x.toArray⟩, .func (.func gf) #[] lb, .string ⟨x.toArray⟩, undef, undef, undef, undef, undef], defers := [] }) ?assign ?body ?done ?stop
  case hI2 =>
    intro pre d X r o h _
    exact h.put o _ (by have := HH.out.2.1; omega) (by have := HH.out.2.1; omega)
  case h0 => exact ⟨_, HH.out.2.2, OwnV.nil_ _ _ _, HH.out.1⟩
  case assign =>
    intro l pre d x W K hI hM hK
    simp only [encS]
    gi_wp2
    exact hK
  case body =>
    rintro l pre d x W ⟨v, k1, k2, k3⟩ ⟨_, post, hpost⟩ hsz
    obtain ⟨i0, hi, hz0, hz1, hz2⟩ := info_parts info_strY
    have hpl : pre.length + 1 ≤ 1000 := by
      have := congrArg List.length hpost
      simp at this
      omega
    have hc : W.cell? ⟨w.heap.size, 0, none⟩ = some v := cell_of_one k1
    obtain ⟨Wa, hWa⟩ : ∃ Wa, Wa = W.alloc (.cells #[.string ⟨x.toArray⟩] 9) := ⟨_, rfl⟩
    have ho : Wa.ownsRow (w.heap.size + 3) 9 1 v pre.length (strVs pre) := by
      rw [hWa]
      have := World.ownsRow.alloc k2 (.cells #[.string ⟨x.toArray⟩] 9)
      rwa [show (strVs pre).length = pre.length from by simp] at this
    have hcn : Wa.cell? ⟨W.heap.size, 0, none⟩ = some (.string ⟨x.toArray⟩) := by rw [hWa]; exact cell_of_one (heap_alloc_new _ _)
    have hsa : Wa.heap.size = W.heap.size + 1 := by rw [hWa]; simp
    have hba : Below w.heap.size w Wa := by rw [hWa]; exact k3.alloc k3.size _
    have hwa : Below W.heap.size W Wa := by rw [hWa]; exact (Below.refl _ _).alloc (Nat.le_refl _) _
    have HA := Lib.hid (And.intro ho (And.intro hcn (And.intro hsa (And.intro hba (And.intro hwa (And.intro k1 hsz))))))
    have HW := Lib.hid hWa
    clear k1 k2 k3 hpost hWa ho hcn hsa hba hwa
    gi_wp2_with (first
      | (gi_at_builtin; rw [← HW.out]; refine wpListIn_append_own _ rfl _ _ 66 rfl (w.heap.size + 3) 9 i0 (.string ⟨#[]⟩) 1 16 Tryz.underlying66 hi hz0 hz1 hz2 rfl (by decide) v pre.length (strVs pre) rfl HA.out.1 ⟨W.heap.size, 0, none⟩ 1 1 [.string ⟨x.toArray⟩] rfl rfl (cell_one HA.out.2.1) (by simp [Value.oneCell']) (by unfold maxLen; omega) (by omega) (by have := HA.out.2.2.1; have := HA.out.2.2.2.2.2.2; have := HH.out.2.1; omega) ?_; intro v5 w5 ho5 hg5 _; (obtain ⟨a5, n5, c5, hv5⟩ := ownsRow_slice ho5); (subst hv5); (have hk5 : ∀ k, k < Wa.heap.size → k < w.heap.size + 3 → w5.heap[k]? = Wa.heap[k]? := fun k h1 h2 => hg5.block k h1 (fun e => by have := (World.ownsRow.lt HA.out.1 k e.symm).1; omega)); (have hbx : w5.heap[w.heap.size]? = some (.cells #[v] 66 (0, 0)) := (hk5 _ (by have := HA.out.2.2.1; have := HA.out.2.2.2.2.2.2; have := HH.out.2.1; omega) (by omega)).trans ((HA.out.2.2.2.2.1.block _ (lt_of_heap HA.out.2.2.2.2.2.1)).trans HA.out.2.2.2.2.2.1)); (have hc5 := cell_of_one hbx); (have hf5 := frozen_of_row _ _ 0 _ _ hbx); (have H5 := Lib.hid (And.intro ho5 (And.intro hg5 (And.intro hk5 hbx)))); clear ho5 hg5 hk5 hbx))
    have hz5 : Wa.heap.size ≤ w5.heap.size := H5.out.2.1.size
    have hzz : W.heap.size + 1 = Wa.heap.size := HA.out.2.2.1.symm
    have hzw := HA.out.2.2.2.2.2.2
    have hz0 := HH.out.2.1
    have keep : ∀ k, W0.heap.size ≤ k → k ≤ W0.heap.size + 1 → (w5.setCell ⟨w.heap.size, 0, none⟩ (.slice a5 n5 c5)).heap[k]? = W.heap[k]? := fun k h1 h2 =>
      (Below.heap_setCell _ _ _ _ (by show k ≠ w.heap.size; omega)).trans ((H5.out.2.2.1 k (by omega) (by omega)).trans (HA.out.2.2.2.2.1.block k (by omega)))
    refine ⟨⟨keep _ (by omega) (by omega), keep _ (by omega) (by omega)⟩, (), ⟨.slice a5 n5 c5, ?_, ?_, ?_⟩, trivial⟩
    · exact heap_setCell_same _ _ 0 _ _ _ H5.out.2.2.2
    · have h1 : OwnV w5 (w.heap.size + 3) 9 (.slice a5 n5 c5) (strVs (pre ++ [x])) := by
        unfold OwnV
        have h2 := H5.out.1
        rw [show (strVs (pre ++ [x])) = strVs pre ++ [.string ⟨x.toArray⟩] from by simp, List.length_append]
        rw [show (strVs pre).length = pre.length from by simp]
        exact h2
      exact h1.setY (by show w.heap.size < _; omega)
    · have h3 : Below w.heap.size w w5 := HA.out.2.2.2.1.grown H5.out.2.1 HA.out.2.2.2.1.size (fun k e => by have := (World.ownsRow.lt HA.out.1 k e).1; omega)
      exact h3.setCell (p := ⟨w.heap.size, 0, none⟩) (Nat.le_refl _) _
  case done =>
    rintro xs d W rfl ⟨v, k1, k2, k3⟩ hK
    have hc : W.cell? ⟨w.heap.size, 0, none⟩ = some v := cell_of_one k1
    have HU := Lib.hid (And.intro k2 (And.intro k3 hK))
    clear k1 k2 k3 hK
    gi_wp2
    refine ⟨by simp, .inl ⟨_, _, rfl, run_takeDeferred HU.out.2.2, ?_⟩⟩
    have z0 := HH.out.2.1
    refine ⟨v, by simp [results, Tryz.results127, go_sem], v, rfl, HU.out.1.putY _ (by omega), below_putObj HU.out.2.1 _ (by omega)⟩
  case stop =>
    rintro c pre W _ h _
    exact h.elim
set_option maxRecDepth 100000 in
theorem collect_any {w : World} (gf : FuncId) (lb : Array Value) (names : List (List UInt8)) (hlen : names.length ≤ 1000)
    (hgf : ∀ args x, (callFunc gf args).run Tryz.prog x = .ok (.enter gf args) x)
    (hit : ∀ W, TellsV Fence.wide 11 Tryz.prog gf lb encS (fun pre x => shortS x ∧ ∃ post, names = (pre ++ [x]) ++ post) (fun _ (_ : Unit) X => Below w.heap.size w X) (fun _ _ _ _ => True) (· = names) (fun pre => ∃ post, names = pre ++ post) W) :
    Calls Tryz.prog 74 #[.func (.func gf) #[] lb] w fun e w' => ∃ v, e = .returned v ∧ OwnV w' (w.heap.size + 3) 9 v (strVs names) ∧ Below w.heap.size w w' := by
  have C := Lib.hid (appendSeq_any gf lb names hlen hgf hit)
  clear hit hgf
  go_enter Tryz.func74, Tryz.ntmps74
  go_wp2_with fail
  refine C.out.mono ?_
  rintro e w1 ⟨v, rfl, h1, h2⟩
  have H := Lib.hid (And.intro h1 h2)
  clear h1 h2
  go_wp2
  go_ret
  exact ⟨_, rfl, H.out.1, H.out.2⟩
end
section
set_option linter.unusedSimpArgs false
set_option linter.unusedVariables false
open Go.RowKit Go.Sort Go.Maps Go.Shelf
open Crc Frm
open Sgn
attribute [local go_sem] Oper.semAt_some

theorem OwnV.names_ {w : World} {base : Nat} {e : TypeId} {v : Value} {l : List (List UInt8)} (h : OwnV w base e v (strVs l)) :
    ∃ a c, v = .slice a l.length c ∧ Row w w.heap.size a l.length c 1 (nmC l) ∧ ∀ k o, a = some ⟨k, o, none⟩ → base ≤ k ∧ k < w.heap.size := by
  have h0 := h
  have hm : (strVs l).length = l.length := List.length_map _
  rcases h.2 with ⟨h1, h2⟩ | ⟨g, cap, cur, h1, h2, h3, h4, h5, h6⟩
  · subst h1
    have hl : l = [] := by simpa using h2
    subst hl
    exact ⟨none, 0, rfl, ⟨Nat.le_refl _, by simp [maxLen], fun hn => absurd hn (by simp)⟩, fun k o hk => by cases hk⟩
  · subst h1
    rw [hm] at h0 h4 ⊢
    refine ⟨_, cap, rfl, ⟨h4, h5, fun _ => ⟨g, 0, rfl, lt_of_heap h3, fun j hj => ?_⟩⟩, fun k o hk => ?_⟩
    · have hj' : j < l.length := by omega
      have h0' : OwnV w base e (.slice (some ⟨g, 0, none⟩) l.length cap) (strVs l) := h0
      have := (h0'.cell (k := j) (u := .string ⟨l[j].toArray⟩) (by simp [hj'])).1
      rw [Nat.zero_add, this]
      simp only [nmC, List.getD_eq_getElem?_getD, List.getElem?_eq_getElem hj']
      rfl
    · cases hk
      exact ⟨h2, lt_of_heap h3⟩
section
variable {w0 w : World} {dp lp size : Nat} {g : Lg} {t : St} {D : Nat → Prop} {sa : Option Addr} {sc : Nat}
theorem retain_any (h : LK w0 w dp lp size g t D sa sc) (hL : Laid w0) (hne : g.segs ≠ []) (hlen : g.segs.length ≤ 1000) (seq : Int) :
    Calls Tryz.prog 27 #[.pointer (some ⟨lp, 0, none⟩), .int .i64 seq] w fun e w' => e = .returned (.int .i64 (lgRetain g t seq).1) ∧ LMv w0 w dp lp size (lO D lp sa) (lgRetain g t seq).2.2 (lgRetain g t seq).2.1 w' := by
  refine retain_of h hne hlen seq ?_
  have hbW := behindW_below w lp seq
  have K := h.on hbW
  have hgl := lgGone_lt hne seq
  have hs : (behindW w lp seq).heap.size = w.heap.size + 2 := by simp [behindW]
  have hnl : ((g.segs.take (lgGone g seq)).map nm).length = lgGone g seq := by rw [List.length_map, List.length_take]; omega
  refine (collect_any _ _ ((g.segs.take (lgGone g seq)).map nm) (by rw [hnl]; omega) (fun args x => by simp [go_sem]) (fun W => behind_tells (wb := behindW w lp seq) (lp := lp) (m := g.segs.length) (sc := sc) (sa := sa) g.segs seq ((h.laid hL).on hbW) (by simp [behindW, go_sem]) (by simp [behindW, go_sem]) K.at_.c2 K.at_.row rfl (List.length_pos_iff.2 hne) hlen _ rfl)).mono ?_
  rintro e w' ⟨v, rfl, ho, hb⟩
  obtain ⟨a, c, rfl, hr, hk⟩ := ho.names_
  rw [hnl] at hr ⊢
  exact ⟨a, c, rfl, hr, hb, fun k o e => by have := hk k o e; omega⟩
end
end
section
set_option linter.unusedSimpArgs false
set_option linter.unusedVariables false
open Go.RowKit
open Crc Frm

/-- What numbers, each in so many bytes, are written as. -/
def wrOf (ms : List (Nat × Nat)) : List Nat := ms.flatMap fun m => be m.1 m.2
def numCell (ms : List (Nat × Nat)) (j : Nat) : Value := .int .i64 (((if j % 2 = 0 then (ms.getD (j / 2) (0, 0)).1 else (ms.getD (j / 2) (0, 0)).2 : Nat)) : Int)
theorem wrOf_snoc (ms : List (Nat × Nat)) (m : Nat × Nat) : wrOf (ms ++ [m]) = wrOf ms ++ be m.1 m.2 := by simp [wrOf]
theorem be_take_succ (k n i : Nat) (h : i < k) : (be k n).take (i + 1) = (be k n).take i ++ [n / 256 ^ (k - 1 - i) % 256] := by
  have hg : ∀ (k i : Nat), i < k → (be k n)[i]? = some (n / 256 ^ (k - 1 - i) % 256) := by
    intro k
    induction k with
    | zero => intro i h; omega
    | succ k ih =>
      intro i h
      cases i with
      | zero => simp [be]
      | succ i =>
        simp only [be, List.getElem?_cons_succ]
        rw [ih i (by omega)]
        congr 4
        omega
  rw [List.take_add_one, hg k i h]
  rfl
theorem byte_at (y k : Nat) : (y : Int) / 2 ^ (8 * k) % 256 = ((y / 256 ^ k % 256 : Nat) : Int) := by
  rw [Int.natCast_emod, Int.natCast_ediv, Nat.pow_mul 2 8 k |> fun h => show ((2 : Int) ^ (8 * k)) = ((256 ^ k : Nat) : Int) from by rw [show (256 : Nat) = 2 ^ 8 from rfl, ← h]; simp]
  rfl
theorem wrOf_le : ∀ (ms : List (Nat × Nat)), (∀ m ∈ ms, m.1 ≤ 4) → (wrOf ms).length ≤ 4 * ms.length := by
  intro ms
  induction ms with
  | nil => intro _; simp [wrOf]
  | cons m ms ih =>
    intro h
    have h1 := ih (fun x hx => h x (by simp [hx]))
    have h2 := h m (by simp)
    simp only [wrOf, List.flatMap_cons, List.length_append, be_len, List.length_cons] at *
    omega
theorem wrOf_byte (ms : List (Nat × Nat)) : ∀ c ∈ wrOf ms, c < 256 := by
  intro c hc
  obtain ⟨m, _, h⟩ := List.mem_flatMap.1 hc
  exact be_byte _ _ c h
theorem own_ne {w : World} {base : Nat} {e : TypeId} {v : Value} {bs : List Nat} (h : OwnB w base e v bs) {p : Nat} {cs : Array Value} {t : TypeId} {fr : Nat × Nat} (hp : w.heap[p]? = some (.cells cs t fr)) (hne : e ≠ t) : v.ownBlock ≠ some p := by
  rcases h.2 with ⟨rfl, _⟩ | ⟨g, cap, cur, rfl, _, hh, _⟩
  · simp [Value.ownBlock]
  · intro hx
    simp [Value.ownBlock] at hx
    subst hx
    rw [hh] at hp
    injection hp with hp
    injection hp with h1 h2
    exact hne h2

set_option maxHeartbeats 1600000 in
theorem fwrite_any (base : Nat) (v : Value) (bs : List Nat) (ms : List (Nat × Nat)) (n g cap : Nat) (w : World) (hown : OwnB w base 5 v bs) (hbase : base ≤ w.heap.size) (hn : ms.length = n) (hn9 : n ≤ 9)
    (hr : Row w w.heap.size (some ⟨g, 0, none⟩) n cap 2 (numCell ms)) (hg : some g ≠ v.ownBlock) (h4 : ∀ m ∈ ms, m.1 ≤ 4 ∧ m.2 < 4294967296) (hl : bs.length ≤ 1000000) :
    Calls Tryz.prog 123 #[v, .slice (some ⟨g, 0, none⟩) n cap] w fun e w' => ∃ v', e = .returned v' ∧ OwnB w' base 5 v' (bs ++ wrOf ms) ∧ w.grownBy w' v.ownBlock ∧ (v'.ownBlock = v.ownBlock ∨ ∃ b, v'.ownBlock = some b ∧ w.heap.size ≤ b) := by
  go_enter Tryz.func123, Tryz.ntmps123
  go_wp2_with fail
  go_loopw [0, 10] (fun u i wx => ∃ k : Nat, k ≤ n ∧ i = .int .i64 (k : Int) ∧ OwnB wx base 5 u (bs ++ wrOf (ms.take k)) ∧ w.grownBy wx v.ownBlock ∧ (u.ownBlock = v.ownBlock ∨ ∃ b, u.ownBlock = some b ∧ w.heap.size ≤ b)) (fun _ i _ => n - (intOf i).toNat)
  case atStart => exact ⟨0, by omega, rfl, by simpa [wrOf] using hown, World.grownBy.refl _ _, .inl rfl⟩
  case round =>
    obtain ⟨k, hk, rfl, ho, hG, hat⟩ := hrel
    by_cases hlt : k < n
    · obtain ⟨b, o, e0, hb, hc⟩ := hr.at_ (by omega)
      have e1 : b = g := by injection e0 with h; injection h with h1 h2; exact h1.symm
      have e2 : o = 0 := by injection e0 with h; injection h with h1 h2; exact h2.symm
      subst e1 e2
      have hm : ms[k]? = some ms[k] := List.getElem?_eq_getElem (by omega)
      have c1 := hG.cell (hc (k * 2) (by omega)) hg
      have c2 := hG.cell (hc (k * 2 + 1) (by omega)) hg
      rw [show numCell ms (k * 2) = .int .i64 ((ms[k].1 : Nat) : Int) from by unfold numCell; rw [if_pos (by omega), show k * 2 / 2 = k from by omega, List.getD_eq_getElem?_getD, hm]; rfl, Nat.zero_add] at c1
      rw [show numCell ms (k * 2 + 1) = .int .i64 ((ms[k].2 : Nat) : Int) from by unfold numCell; rw [if_neg (by omega), show (k * 2 + 1) / 2 = k from by omega, List.getD_eq_getElem?_getD, hm]; rfl, Nat.zero_add] at c2
      have hb4 := h4 ms[k] (List.getElem_mem _)
      have Hw : Hid (wrOf (ms.take (k + 1)) = wrOf (ms.take k) ++ be ms[k].1 ms[k].2) := by
        show _ = _
        rw [List.take_succ_eq_append_getElem (by omega), wrOf_snoc]
      generalize ms[k].1 = x at c1 hb4 Hw
      generalize ms[k].2 = y at c2 hb4 Hw
      have Ho := Lib.hid (And.intro ho (And.intro hG hat))
      clear hc ho hG hat
      go_wp2_with fail
      go_loopw [0, 16] (fun u i wx => ∃ j : Nat, j ≤ x ∧ i = .int .i64 (j : Int) ∧ OwnB wx base 5 u (bs ++ wrOf (ms.take k) ++ (be x y).take j) ∧ w.grownBy wx v.ownBlock ∧ (u.ownBlock = v.ownBlock ∨ ∃ b, u.ownBlock = some b ∧ w.heap.size ≤ b) ∧
        wx.heap[wr.heap.size]? = some (.cells #[.int .i64 (x : Int), .int .i64 (y : Int)] 148 (0, 0))) (fun _ i _ => x - (intOf i).toNat)
      case atStart => exact ⟨0, by omega, rfl, by simpa using Ho.out.1.alloc _, Ho.out.2.1.trans (World.grownBy_alloc _ _ _), Ho.out.2.2, heap_alloc_new _ _⟩
      case round =>
        obtain ⟨j, hj, rfl, ho, hG, hat, hp⟩ := hrel
        have k0 := (cell_of_row _ _ 0 _ _ _ hp).trans rfl
        have k1 := (cell_of_row _ _ 1 _ _ _ hp).trans rfl
        by_cases hlt2 : j < x
        · have hby : (y : Int) / 2 ^ (8 * (x - 1 - j)) % 256 = ((y / 256 ^ (x - 1 - j) % 256 : Nat) : Int) := byte_at y (x - 1 - j)
          have hcl : y / 256 ^ (x - 1 - j) % 256 < 256 := Nat.mod_lt _ (by decide)
          have Ht := Lib.hid (be_take_succ x y j hlt2)
          have hlb : (bs ++ wrOf (ms.take k) ++ (be x y).take j).length ≤ 1000000 + 100 := by
            have h1 := wrOf_le (ms.take k) (fun m hm => (h4 m (List.mem_of_mem_take hm)).1)
            have h2 : (ms.take k).length ≤ 9 := by rw [List.length_take]; omega
            rw [List.length_append, List.length_append, List.length_take, be_len]
            omega
          generalize y / 256 ^ (x - 1 - j) % 256 = c at hby hcl Ht
          generalize hB2 : bs ++ wrOf (ms.take k) ++ (be x y).take j = b2 at ho hlb
          have HB2 := Lib.hid hB2
          have Hp := Lib.hid (And.intro hG (And.intro hat hp))
          have hpl := lt_of_heap hp
          have hwle := hG.size
          clear hB2 hG hat hp Ho
          go_wp2_with (at_builtin; refine wpList_append_sl rfl (.tmp 19) (.tmp 30) _ rfl base _ Tryz.underlying38 info_u8 u0 b2 rfl (ho.alloc _) _ (some ⟨wr.heap.size, 0, none⟩) 1 1 [c] rfl (Sl.one _ _ hcl) (by simp; omega) (by simp; omega) ?_; intro v1 w3 hown1 hg1 hat1)
          obtain ⟨hG, hat, hp⟩ := Hp.out
          have hne1 := own_ne (ho.alloc (.cells #[.int .u8 (c : Int)] 5)) ((heap_alloc_old _ _ hpl).trans hp) (by decide)
          have hp3 := (hg1.block _ (by simp; omega) (Ne.symm hne1)).trans ((heap_alloc_old _ _ hpl).trans hp)
          have hG3 : w.grownBy w3 v.ownBlock := (hG.trans (World.grownBy_alloc _ _ _)).andThen hg1 (fun q hq => by
            rcases hat with h | ⟨b', h, hb'⟩
            · right; rw [← h]; exact hq
            · rw [h] at hq; injection hq with hq; left; omega)
          have hat3 : v1.ownBlock = v.ownBlock ∨ ∃ b, v1.ownBlock = some b ∧ w.heap.size ≤ b := by
            rcases hat1 with h | h
            · rw [h]; exact hat
            · right; exact ⟨_, h, by simp; omega⟩
          have H3 := Lib.hid (And.intro hown1 (And.intro hG3 (And.intro hat3 hp3)))
          clear hG hat hp hne1 hp3 hG3 hat3 hown1 hg1 hat1 ho
          go_wp2
          obtain ⟨h1, h2, h3, h5⟩ := H3.out
          exact ⟨⟨j + 1, by omega, by go_num, by rw [Ht.out, ← List.append_assoc, HB2.out]; exact h1, h2, h3, h5⟩, by simp [intOf]; omega⟩
        · have hjx : j = x := by omega
          subst hjx
          rw [show (be j y).take j = be j y from List.take_of_length_le (by rw [be_len]; omega), List.append_assoc, ← Hw.out] at ho
          have H3 := Lib.hid (And.intro ho (And.intro hG hat))
          clear ho hG hat hp k0 k1
          go_wp2
          obtain ⟨h1, h2, h3⟩ := H3.out
          exact ⟨⟨k + 1, by omega, by go_num, h1, h2, h3⟩, by simp [intOf]; omega⟩
    · have hkn : k = n := by omega
      subst hkn
      rw [List.take_of_length_le (by omega)] at ho
      have H3 := Lib.hid (And.intro ho (And.intro hG hat))
      clear ho hG hat
      go_wp2
      go_ret
      obtain ⟨h1, h2, h3⟩ := H3.out
      exact ⟨_, rfl, h1, h2, h3⟩
end
end Go.Proofs.YtechgmohdabkpaaGreatDoor

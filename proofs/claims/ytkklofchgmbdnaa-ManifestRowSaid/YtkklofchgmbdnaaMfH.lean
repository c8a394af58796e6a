/- Contracts of the program's manifest: Swap, whole. -/
import Derived.Test.YtkklofchgmbdnaaMfG
namespace Go.Proofs.Ytkklofchgmbdnaa
open Go.RowKit Go.Sort
open Crc Frm
attribute [local go_sem] Oper.semAt_some

theorem DK.setOut {w0 w : World} {dp : Nat} {t : St} {O : Nat → Prop} (h : DK w0 w dp t O) (p : Addr) (u : Value) (hp : ¬ O p.block) (hb : w0.heap.size ≤ p.block) : DK w0 (w.setCell p u) dp t O :=
  ⟨Dsk.but h.is ((But.refl (fun k => k = p.block) w).setCell (.inl rfl) u) (fun k hk e => hp (e ▸ hk)), h.base, h.below.setCell hb u⟩
theorem Row.on9 {w w' : World} {a : Option Addr} {n c m : Nat} {cs : Nat → Value} (h : Row w w.heap.size a n c m cs) (hb : Below w.heap.size w w') : Row w' w'.heap.size a n c m cs := (h.below hb (Nat.le_refl _)).more hb.size
set_option linter.unusedSimpArgs false in
set_option maxRecDepth 100000 in
set_option maxHeartbeats 3200000 in
theorem mswap_any {w0 w : World} {dp : Nat} {t : St} {O : Nat → Prop} (h : DK w0 w dp t O) (l : List Int) (a : Option Addr) (n c : Nat) (hr : Row w w.heap.size a n c 1 (intsC l)) (hn : l.length = n)
    (hfar : 0 < n → ∀ k o, a = some ⟨k, o, none⟩ → ¬ O k) :
    Calls Try.prog 32 #[.pointer (some ⟨dp, 0, none⟩), .slice a n c] w fun e w' => e = .returned (.int .i64 (mSwap t l).1) ∧ Mv w0 w dp O (mSwap t l).2 w' := by
  have hmf : ∀ (fn : Fn) (first cap : Array Value) (w : World), (Instr.makeFunc fn first cap).run Try.prog w = .ok (.func fn first cap) w := fun _ _ _ _ => rfl
  have hlt := h.lt
  obtain ⟨w3, hw3⟩ : ∃ w3, w3 = ((w.alloc (.cells #[.pointer (some ⟨dp, 0, none⟩)] 24)).alloc (.cells #[.slice a n c] 44)).alloc (.cells #[.int .i64 0] 29) := ⟨_, rfl⟩
  have hB3 : Below w.heap.size w w3 := by rw [hw3]; exact (((Below.refl _ _).alloc (Nat.le_refl _) _).alloc (by simp) _).alloc (by simp; omega) _
  have hs3 : w3.heap.size = w.heap.size + 3 := by rw [hw3]; simp
  have R := Lib.hid (mright_any l a n c w3 (hr.below hB3 (Nat.le_refl _) |>.more hB3.size) hn)
  rw [hw3] at R
  have HK := Lib.hid (And.intro h (And.intro hr (And.intro hn hfar)))
  clear h hr hn hfar
  by_cases hok : mOk l = true
  · have hsw : Hid (mSwap t l = ((mTurn t l).1, mClean (mTurn t l).1 (mTurn t l).2)) := if_pos hok
    rw [hok] at R
    go_enter_defers Try.func32, Try.ntmps32
    go_wp2_with fail
    refine R.out.mono ?_
    rintro e w1 ⟨rfl, rfl⟩
    obtain ⟨w4, hw4⟩ : ∃ w4, w4 = w3.alloc (.cells #[.func (.func 60) #[] #[.pointer (some ⟨w.heap.size, 0, none⟩)], .func (.func 62) #[] #[.pointer (some ⟨w.heap.size, 0, none⟩), .pointer (some ⟨w.heap.size + 1, 0, none⟩)],
      .func (.func 63) #[] #[.pointer (some ⟨w.heap.size, 0, none⟩)], .func (.func 64) #[] #[.pointer (some ⟨w.heap.size, 0, none⟩)]] 86) := ⟨_, rfl⟩
    have hB4 : Below w.heap.size w w4 := by rw [hw4]; exact hB3.alloc hB3.size _
    have hs4 : w4.heap.size = w.heap.size + 4 := by rw [hw4]; simp [hs3]
    have hd4 : w4.cell? ⟨w.heap.size, 0, none⟩ = some (.pointer (some ⟨dp, 0, none⟩)) := by rw [hw4, hw3]; simp [go_sem]
    have hl4 : w4.cell? ⟨w.heap.size + 1, 0, none⟩ = some (.slice a n c) := by rw [hw4, hw3]; simp [go_sem]
    have he4 : w4.cell? ⟨w.heap.size + 2, 0, none⟩ = some (.int .i64 0) := by rw [hw4, hw3]; simp [go_sem]
    have hz4 : w4.frozen? ⟨w.heap.size + 2, 0, none⟩ = false := by rw [hw4, hw3]; simp [go_sem]
    have hg4 : ∀ k, k < 4 → w4.cell? ⟨w.heap.size + 3, k, none⟩ = some (.func (.func (swF k)) #[] (swC w.heap.size (w.heap.size + 1) k)) := by
      intro k hk
      rw [hw4, ← hs3]
      match k, hk with
      | 0, _ => exact (cell_of_row _ _ 0 _ _ _ (heap_alloc_new w3 _)).trans rfl
      | 1, _ => exact (cell_of_row _ _ 1 _ _ _ (heap_alloc_new w3 _)).trans rfl
      | 2, _ => exact (cell_of_row _ _ 2 _ _ _ (heap_alloc_new w3 _)).trans rfl
      | 3, _ => exact (cell_of_row _ _ 3 _ _ _ (heap_alloc_new w3 _)).trans rfl
    have IT := swaps_any (HK.out.1.on hB4) l a n c hd4 hl4 (HK.out.2.1.on9 hB4) HK.out.2.2.1 (fun ho => by have := hlt _ ho; omega) (fun ho => by have := hlt _ ho; omega) (fun ho => by have := hlt _ ho; omega) HK.out.2.2.2 hg4
    have H4 := Lib.hid (And.intro hB4 (And.intro hs4 (And.intro hd4 (And.intro he4 hz4))))
    rw [hw4, hw3] at IT
    have IT := Lib.hid IT
    clear hg4 hl4 hB4 hs4 hd4 he4 hz4 R
    go_wp2_with fail
    refine IT.out.mono ?_
    rintro e w5 ⟨x, rfl, hx, hmv⟩
    rw [← hw3, ← hw4] at hmv
    obtain ⟨O5, k5, b5, f5⟩ := hmv
    have d5 := (b5.cell (b := w.heap.size) (o := 0) (by have := H4.out.2.1; omega) (fun ho => by have := hlt _ ho; omega)).trans H4.out.2.2.1
    have e5 := (b5.cell (b := w.heap.size + 2) (o := 0) (by have := H4.out.2.1; omega) (fun ho => by have := hlt _ ho; omega)).trans H4.out.2.2.2.1
    have z5 := (b5.frozen (b := w.heap.size + 2) (o := 0) (by have := H4.out.2.1; omega) (fun ho => by have := hlt _ ho; omega)).trans H4.out.2.2.2.2
    have q5 : w.heap.size + 2 = w.heap.size + 1 + 1 := rfl
    rw [q5] at e5 z5
    have H5 := Lib.hid (And.intro k5 (And.intro b5 (And.intro f5 (And.intro hx d5))))
    clear k5 b5 f5 hx IT d5
    go_wp2_with fail
    have hbe : ¬ O5 (w.heap.size + 1 + 1) := fun ho => by
      rcases H5.out.2.2.1 _ ho with h1 | h1
      · have := hlt _ h1; omega
      · have := H4.out.2.1; omega
    have hbd : ¬ O5 w.heap.size := fun ho => by
      rcases H5.out.2.2.1 _ ho with h1 | h1
      · have := hlt _ h1; omega
      · have := H4.out.2.1; omega
    have hs5 : w.heap.size + 4 ≤ w5.heap.size := by have := H5.out.2.1.size; have := H4.out.2.1; omega
    obtain ⟨w6, hw6⟩ : ∃ w6, w6 = w5.setCell ⟨w.heap.size + 1 + 1, 0, none⟩ (.int .i64 x) := ⟨_, rfl⟩
    have k6 : DK w0 w6 dp (mTurn t l).2 O5 := by rw [hw6]; exact H5.out.1.setOut ⟨w.heap.size + 1 + 1, 0, none⟩ _ hbe (by have := HK.out.1.below.size; show _ ≤ w.heap.size + 1 + 1; omega)
    have e6 : w6.cell? ⟨w.heap.size + 1 + 1, 0, none⟩ = some (.int .i64 x) := by rw [hw6]; exact World.cell?_setCell_same _ _ _ e5
    have d6 : w6.cell? ⟨w.heap.size, 0, none⟩ = some (.pointer (some ⟨dp, 0, none⟩)) := by rw [hw6]; exact cell_set_far H5.out.2.2.2.2 (by show w.heap.size ≠ w.heap.size + 1 + 1; omega)
    have b6 : But O w w6 := by
      rw [hw6]
      exact (((But.of_below (O := O) H4.out.1).trans H5.out.2.1 (fun _ hi => .inl hi)).setCell (p := ⟨w.heap.size + 1 + 1, 0, none⟩) (.inr (by show _ ≤ w.heap.size + 1 + 1; omega)) _)
    have hO6 : ∀ k, O5 k → O k ∨ w.heap.size ≤ k := fun k hk => by
      rcases H5.out.2.2.1 k hk with h1 | h1
      · exact .inl h1
      · right; have := H4.out.2.1; omega
    have hs6 : w5.heap.size ≤ w6.heap.size := by rw [hw6]; simp
    rw [← hw6]
    refine leaves_cons (f := 58) (args := #[.pointer (some ⟨w.heap.size + 1 + 1, 0, none⟩), .pointer (some ⟨w.heap.size, 0, none⟩)]) (by simp) (by simp [go_sem]) ?_
    refine (sw1_any k6 x .returning d6 e6).mono ?_
    rintro e u' w7 ⟨rfl, rfl, hmv⟩
    have e7 : w7.cell? ⟨w.heap.size + 1 + 1, 0, none⟩ = some (.int .i64 x) := by
      obtain ⟨O7, _, b7, _⟩ := hmv
      exact (b7.cell (b := w.heap.size + 1 + 1) (o := 0) (by omega) hbe).trans e6
    refine ⟨_, (by simp [results, Try.results32, go_sem, e7]; rfl), ?_⟩
    have hx := H5.out.2.2.2.1
    rw [hsw.out]
    refine ⟨by rw [hx], ?_⟩
    rw [hx] at hmv
    exact Mv.then b6 hO6 hmv
  · have hsw : Hid (mSwap t l = (1, t)) := if_neg hok
    have hno : mOk l = false := by simpa using hok
    rw [hno] at R
    go_enter_defers Try.func32, Try.ntmps32
    go_wp2_with fail
    refine R.out.mono ?_
    rintro e w1 ⟨rfl, rfl⟩
    go_wp2
    refine ⟨_, (by simp [results, Try.results32, go_sem]; rfl), ?_⟩
    rw [hsw.out]
    refine ⟨rfl, Mv.still HK.out.1 ?_⟩
    exact (((Below.refl _ _).alloc (Nat.le_refl _) _).alloc (by simp) _).alloc (by simp; omega) _
end Go.Proofs.Ytkklofchgmbdnaa

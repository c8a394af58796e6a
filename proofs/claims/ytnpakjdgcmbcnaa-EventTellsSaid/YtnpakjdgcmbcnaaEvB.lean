/- The clearer's calls; a row of pointers into one block. -/
import Derived.Test.YtnpakjdgcmbcnaaBut
import Derived.Test.YtnpakjdgcmbcnaaEvA
import Derived.Test.YtnpakjdgcmbcnaaHeld
import Derived.Test.YtnpakjdgcmbcnaaAp
import Derived.Test.YtnpakjdgcmbcnaaChecked
namespace Go.Proofs.Ytnpakjdgcmbcnaa
open Go.RowKit

/-- A slice in block g of pointers to the cells js of block b. -/
def Ptrs (w : World) (g b : Nat) (js : List Nat) : Prop := ∀ i, i < js.length → w.cell? ⟨g, i, none⟩ = some (.pointer (some ⟨b, js.getD i 0, none⟩))
theorem Ptrs.same {w w' : World} {g b : Nat} {js : List Nat} (h : Ptrs w g b js) (hk : w'.heap[g]? = w.heap[g]?) : Ptrs w' g b js :=
  fun i hi => (World.cell?_of_block (w := w) (a := ⟨g, i, none⟩) hk).trans (h i hi)
theorem Ptrs.new {w : World} {g b : Nat} {js : List Nat} {T : TypeId} {l : Array Value} (h : w.heap[g]? = some (.cells l T (0, 0))) (hl : l = (js.map fun j => Value.pointer (some ⟨b, j, none⟩)).toArray) : Ptrs w g b js := fun i hi => by
  rw [cell_of_row w g i l T (0, 0) h, hl, List.getElem?_toArray, List.getElem?_map, List.getElem?_eq_getElem hi, List.getD_eq_getElem?_getD, List.getElem?_eq_getElem hi]
  rfl
/-- Cells js are set, one by one. -/
def putAll (cs : Array Value) (l : List (Nat × Value)) : Array Value := l.foldl (fun c x => c.setIfInBounds x.1 x.2) cs
theorem putAll_snoc (cs : Array Value) (l : List (Nat × Value)) (x : Nat × Value) : putAll cs (l ++ [x]) = (putAll cs l).setIfInBounds x.1 x.2 := by simp [putAll]
theorem size_putAll (cs : Array Value) : ∀ (l : List (Nat × Value)), (putAll cs l).size = cs.size := by
  intro l
  induction l generalizing cs with
  | nil => rfl
  | cons x l ih => exact (ih _).trans (by simp)
def zeros (js : List Nat) : List (Nat × Value) := js.map fun j => (j, Value.int .i64 0)
theorem zeros_snoc (js : List Nat) (k : Nat) (h : k < js.length) : zeros (js.take (k + 1)) = zeros (js.take k) ++ [(js.getD k 0, Value.int .i64 0)] := by
  rw [zeros, List.take_succ_eq_append_getElem h, List.map_append, List.getD_eq_getElem?_getD, List.getElem?_eq_getElem h]
  rfl
set_option linter.unusedSimpArgs false in
theorem cints_any {w : World} {g b n : Nat} {js : List Nat} {cs : Array Value} {T : TypeId} (hp : Ptrs w g b js) (hn : js.length = n) (hb : w.heap[b]? = some (.cells cs T (0, 0))) (hj : ∀ j ∈ js, j < cs.size) (hg : g ≠ b) (hgl : g < w.heap.size) (hnn : n ≤ 100) :
    Calls Try.prog 96 #[.agg #[], .slice (some ⟨g, 0, none⟩) n n] w fun e w' => e = .returned (.tuple #[]) ∧ w'.heap[b]? = some (.cells (putAll cs (zeros js)) T (0, 0)) ∧ But (fun k => k = b) w w' := by
  have hbl := lt_of_heap hb
  have HP := Lib.hid (And.intro hp (And.intro hn (And.intro hb hj)))
  clear hp hn hb hj
  go_enter Try.func96, Try.ntmps96
  go_wp2_with fail
  go_loopw [8] (fun i wx => ∃ k : Nat, k ≤ n ∧ i = .int .i64 (k : Int) ∧ wx.heap[b]? = some (.cells (putAll cs (zeros (js.take k))) T (0, 0)) ∧ But (fun k => k = b) w wx) (fun i _ => n - (intOf i).toNat)
  case atStart => exact ⟨0, Nat.zero_le _, rfl, (Below.heap_alloc _ _ _ hbl).trans HP.out.2.2.1, (But.refl _ _).alloc _⟩
  case round =>
    obtain ⟨k, hk, rfl, hb, hbut⟩ := hrel
    by_cases hlt : k < n
    · have hlt' : (k : Int) < (n : Int) := by omega
      have HL := Lib.hid (And.intro hk hlt)
      have hk' : k < js.length := by have := HP.out.2.1; omega
      have c0 := (HP.out.1.same (hbut.block g hgl hg)) k hk'
      have hx : js.getD k 0 < (putAll cs (zeros (js.take k))).size := by
        rw [size_putAll]
        refine HP.out.2.2.2 _ ?_
        rw [List.getD_eq_getElem?_getD, List.getElem?_eq_getElem hk']
        exact List.getElem_mem _
      have HZ := Lib.hid (zeros_snoc js k hk')
      generalize js.getD k 0 = x at c0 hx HZ
      obtain ⟨v1, k1⟩ : ∃ v, wr.cell? ⟨b, x, none⟩ = some v := ⟨(putAll cs (zeros (js.take k)))[x], by rw [cell_of_row _ _ x _ _ _ hb]; exact Array.getElem?_eq_getElem hx⟩
      have z1 := frozen_of_row _ _ x _ _ hb
      have HB := Lib.hid (And.intro hb hbut)
      clear hb hbut
      go_wp2
      go_roundw
      case rel =>
        refine ⟨k + 1, by have := HL.out; omega, by go_num, ?_, HB.out.2.setCell (.inl rfl) _⟩
        rw [HZ.out, putAll_snoc]
        exact heap_setCell_same _ _ _ _ _ _ HB.out.1
      case measure => have := HL.out; simp [intOf]; omega
    · have hlt' : ¬ (k : Int) < (n : Int) := by omega
      have ek : k = n := by omega
      subst ek
      have HB := Lib.hid (And.intro hb hbut)
      clear hb hbut
      go_wp2
      go_end0
      refine ⟨rfl, ?_, HB.out.2⟩
      have := HB.out.1
      rwa [List.take_of_length_le (by have := HP.out.2.1; omega)] at this
set_option linter.unusedSimpArgs false in
theorem clongs_any {w : World} {g b n : Nat} {js : List Nat} {cs : Array Value} {T : TypeId} (hp : Ptrs w g b js) (hn : js.length = n) (hb : w.heap[b]? = some (.cells cs T (0, 0))) (hj : ∀ j ∈ js, j < cs.size) (hg : g ≠ b) (hgl : g < w.heap.size) (hnn : n ≤ 100) :
    Calls Try.prog 97 #[.agg #[], .slice (some ⟨g, 0, none⟩) n n] w fun e w' => e = .returned (.tuple #[]) ∧ w'.heap[b]? = some (.cells (putAll cs (zeros js)) T (0, 0)) ∧ But (fun k => k = b) w w' := by
  have hbl := lt_of_heap hb
  have HP := Lib.hid (And.intro hp (And.intro hn (And.intro hb hj)))
  clear hp hn hb hj
  go_enter Try.func97, Try.ntmps97
  go_wp2_with fail
  go_loopw [8] (fun i wx => ∃ k : Nat, k ≤ n ∧ i = .int .i64 (k : Int) ∧ wx.heap[b]? = some (.cells (putAll cs (zeros (js.take k))) T (0, 0)) ∧ But (fun k => k = b) w wx) (fun i _ => n - (intOf i).toNat)
  case atStart => exact ⟨0, Nat.zero_le _, rfl, (Below.heap_alloc _ _ _ hbl).trans HP.out.2.2.1, (But.refl _ _).alloc _⟩
  case round =>
    obtain ⟨k, hk, rfl, hb, hbut⟩ := hrel
    by_cases hlt : k < n
    · have hlt' : (k : Int) < (n : Int) := by omega
      have HL := Lib.hid (And.intro hk hlt)
      have hk' : k < js.length := by have := HP.out.2.1; omega
      have c0 := (HP.out.1.same (hbut.block g hgl hg)) k hk'
      have hx : js.getD k 0 < (putAll cs (zeros (js.take k))).size := by
        rw [size_putAll]
        refine HP.out.2.2.2 _ ?_
        rw [List.getD_eq_getElem?_getD, List.getElem?_eq_getElem hk']
        exact List.getElem_mem _
      have HZ := Lib.hid (zeros_snoc js k hk')
      generalize js.getD k 0 = x at c0 hx HZ
      obtain ⟨v1, k1⟩ : ∃ v, wr.cell? ⟨b, x, none⟩ = some v := ⟨(putAll cs (zeros (js.take k)))[x], by rw [cell_of_row _ _ x _ _ _ hb]; exact Array.getElem?_eq_getElem hx⟩
      have z1 := frozen_of_row _ _ x _ _ hb
      have HB := Lib.hid (And.intro hb hbut)
      clear hb hbut
      go_wp2
      go_roundw
      case rel =>
        refine ⟨k + 1, by have := HL.out; omega, by go_num, ?_, HB.out.2.setCell (.inl rfl) _⟩
        rw [HZ.out, putAll_snoc]
        exact heap_setCell_same _ _ _ _ _ _ HB.out.1
      case measure => have := HL.out; simp [intOf]; omega
    · have hlt' : ¬ (k : Int) < (n : Int) := by omega
      have ek : k = n := by omega
      subst ek
      have HB := Lib.hid (And.intro hb hbut)
      clear hb hbut
      go_wp2
      go_end0
      refine ⟨rfl, ?_, HB.out.2⟩
      have := HB.out.1
      rwa [List.take_of_length_le (by have := HP.out.2.1; omega)] at this
theorem ccount_any (n m : Int) (w : World) : Calls Try.prog 95 #[.agg #[], .int .i64 n, .int .i64 m] w fun e w' => e = .returned (.int .i64 0) ∧ Below w.heap.size w w' := by
  go_enter Try.func95, Try.ntmps95
  go_wp2
  go_ret
  exact ⟨rfl, (Below.refl _ _).alloc (Nat.le_refl _) _⟩
theorem ctext_any {w : World} {b j : Nat} {cs : Array Value} {T : TypeId} (hb : w.heap[b]? = some (.cells cs T (0, 0))) (hj : j < cs.size) (m : Int) :
    Calls Try.prog 98 #[.agg #[], .pointer (some ⟨b, j, none⟩), .int .i64 m] w fun e w' => e = .returned (.tuple #[]) ∧ w'.heap[b]? = some (.cells (cs.setIfInBounds j (.slice none 0 0)) T (0, 0)) ∧ But (fun k => k = b) w w' := by
  have hbl := lt_of_heap hb
  have hb1 : (w.alloc (.cells #[] 61)).heap[b]? = some (.cells cs T (0, 0)) := (Below.heap_alloc _ _ _ hbl).trans hb
  obtain ⟨v1, k1⟩ : ∃ v, (w.alloc (.cells #[] 61)).cell? ⟨b, j, none⟩ = some v := ⟨cs[j], by rw [cell_of_row _ _ j _ _ _ hb1]; exact Array.getElem?_eq_getElem hj⟩
  have z1 := frozen_of_row _ _ j _ _ hb1
  have HB := Lib.hid hb
  clear hb hb1
  go_enter Try.func98, Try.ntmps98
  go_wp2
  go_end0
  exact ⟨rfl, (Below.heap_alloc _ _ _ (by simpa [World.setCell] using hbl)).trans (heap_setCell_same _ _ _ _ _ _ HB.out), ((But.refl (fun k => k = b) w).setCell (p := ⟨b, j, none⟩) (.inl rfl) _).alloc _⟩
end Go.Proofs.Ytnpakjdgcmbcnaa

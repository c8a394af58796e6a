/- A method through an interface value: none of the three coders is a nil pointer; which function it is. -/
import Derived.Test.YtnpakjdgcmbcnaaEvB
namespace Go.Proofs.Ytnpakjdgcmbcnaa
open Go.RowKit

theorem na_cints (w : World) : (nilAhead 254 61 (.agg #[]) "governor/event.ints").run Try.prog w = .ok (some false) w := by kernel_rfl
theorem mt_cints (w : World) : (Go.method 254 61 (.agg #[]) "governor/event.ints").run Try.prog w = .ok (96, (.agg #[])) w := by kernel_rfl
theorem na_clongs (w : World) : (nilAhead 254 61 (.agg #[]) "governor/event.longs").run Try.prog w = .ok (some false) w := by kernel_rfl
theorem mt_clongs (w : World) : (Go.method 254 61 (.agg #[]) "governor/event.longs").run Try.prog w = .ok (97, (.agg #[])) w := by kernel_rfl
theorem na_ccount (w : World) : (nilAhead 254 61 (.agg #[]) "governor/event.count").run Try.prog w = .ok (some false) w := by kernel_rfl
theorem mt_ccount (w : World) : (Go.method 254 61 (.agg #[]) "governor/event.count").run Try.prog w = .ok (95, (.agg #[])) w := by kernel_rfl
theorem na_ctext (w : World) : (nilAhead 254 61 (.agg #[]) "governor/event.text").run Try.prog w = .ok (some false) w := by kernel_rfl
theorem mt_ctext (w : World) : (Go.method 254 61 (.agg #[]) "governor/event.text").run Try.prog w = .ok (98, (.agg #[])) w := by kernel_rfl
theorem na_wints (p : Nat) (w : World) : (nilAhead 254 73 (.pointer (some ⟨p, 0, none⟩)) "governor/event.ints").run Try.prog w = .ok (some false) w := by kernel_rfl
theorem mt_wints (p : Nat) (w : World) : (Go.method 254 73 (.pointer (some ⟨p, 0, none⟩)) "governor/event.ints").run Try.prog w = .ok (100, (.pointer (some ⟨p, 0, none⟩))) w := by kernel_rfl
theorem na_wlongs (p : Nat) (w : World) : (nilAhead 254 73 (.pointer (some ⟨p, 0, none⟩)) "governor/event.longs").run Try.prog w = .ok (some false) w := by kernel_rfl
theorem mt_wlongs (p : Nat) (w : World) : (Go.method 254 73 (.pointer (some ⟨p, 0, none⟩)) "governor/event.longs").run Try.prog w = .ok (101, (.pointer (some ⟨p, 0, none⟩))) w := by kernel_rfl
theorem na_wcount (p : Nat) (w : World) : (nilAhead 254 73 (.pointer (some ⟨p, 0, none⟩)) "governor/event.count").run Try.prog w = .ok (some false) w := by kernel_rfl
theorem mt_wcount (p : Nat) (w : World) : (Go.method 254 73 (.pointer (some ⟨p, 0, none⟩)) "governor/event.count").run Try.prog w = .ok (99, (.pointer (some ⟨p, 0, none⟩))) w := by kernel_rfl
theorem na_wtext (p : Nat) (w : World) : (nilAhead 254 73 (.pointer (some ⟨p, 0, none⟩)) "governor/event.text").run Try.prog w = .ok (some false) w := by kernel_rfl
theorem mt_wtext (p : Nat) (w : World) : (Go.method 254 73 (.pointer (some ⟨p, 0, none⟩)) "governor/event.text").run Try.prog w = .ok (102, (.pointer (some ⟨p, 0, none⟩))) w := by kernel_rfl
theorem na_rints (p : Nat) (w : World) : (nilAhead 254 50 (.agg #[.pointer (some ⟨p, 0, none⟩)]) "governor/event.ints").run Try.prog w = .ok (some false) w := by kernel_rfl
theorem mt_rints (p : Nat) (w : World) : (Go.method 254 50 (.agg #[.pointer (some ⟨p, 0, none⟩)]) "governor/event.ints").run Try.prog w = .ok (75, (.agg #[.pointer (some ⟨p, 0, none⟩)])) w := by kernel_rfl
theorem na_rlongs (p : Nat) (w : World) : (nilAhead 254 50 (.agg #[.pointer (some ⟨p, 0, none⟩)]) "governor/event.longs").run Try.prog w = .ok (some false) w := by kernel_rfl
theorem mt_rlongs (p : Nat) (w : World) : (Go.method 254 50 (.agg #[.pointer (some ⟨p, 0, none⟩)]) "governor/event.longs").run Try.prog w = .ok (76, (.agg #[.pointer (some ⟨p, 0, none⟩)])) w := by kernel_rfl
theorem na_rcount (p : Nat) (w : World) : (nilAhead 254 50 (.agg #[.pointer (some ⟨p, 0, none⟩)]) "governor/event.count").run Try.prog w = .ok (some false) w := by kernel_rfl
theorem mt_rcount (p : Nat) (w : World) : (Go.method 254 50 (.agg #[.pointer (some ⟨p, 0, none⟩)]) "governor/event.count").run Try.prog w = .ok (74, (.agg #[.pointer (some ⟨p, 0, none⟩)])) w := by kernel_rfl
theorem na_rtext (p : Nat) (w : World) : (nilAhead 254 50 (.agg #[.pointer (some ⟨p, 0, none⟩)]) "governor/event.text").run Try.prog w = .ok (some false) w := by kernel_rfl
theorem mt_rtext (p : Nat) (w : World) : (Go.method 254 50 (.agg #[.pointer (some ⟨p, 0, none⟩)]) "governor/event.text").run Try.prog w = .ok (77, (.agg #[.pointer (some ⟨p, 0, none⟩)])) w := by kernel_rfl
/-- Block b as it stands behind w0: nothing else was changed since. -/
structure CB (w0 w : World) (b : Nat) (T : TypeId) (cs : Array Value) : Prop where
  cells : w.heap[b]? = some (.cells cs T (0, 0))
  but : But (fun k => k = b) w0 w
theorem CB.on {w0 w w' : World} {b : Nat} {T : TypeId} {cs : Array Value} (h : CB w0 w b T cs) (hb : Below w.heap.size w w') : CB w0 w' b T cs :=
  ⟨(hb.block b (lt_of_heap h.cells)).trans h.cells, h.but.trans (But.of_below (O := fun k => k = b) hb) (fun _ hi => .inl hi)⟩
theorem CB.start {w : World} {b : Nat} {T : TypeId} {cs : Array Value} (h : w.heap[b]? = some (.cells cs T (0, 0))) : CB w w b T cs := ⟨h, But.refl _ _⟩
theorem CB.then_ {w0 w w' : World} {b : Nat} {T : TypeId} {cs cs' : Array Value} (h : CB w0 w b T cs) (k : CB w w' b T cs') : CB w0 w' b T cs' := ⟨k.cells, h.but.trans k.but (fun _ hi => .inl hi)⟩
theorem CB.lt {w0 w : World} {b : Nat} {T : TypeId} {cs : Array Value} (h : CB w0 w b T cs) : b < w.heap.size := lt_of_heap h.cells
theorem cints_new {w0 w : World} {b n : Nat} {js : List Nat} {cs l : Array Value} {T U : TypeId} (h : CB w0 w b T cs) (hj : ∀ j ∈ js, j < cs.size) (hl : l = (js.map fun j => Value.pointer (some ⟨b, j, none⟩)).toArray) (hn : js.length = n) (hnn : n ≤ 100) :
    Calls Try.prog 96 #[.agg #[], .slice (some ⟨w.heap.size, 0, none⟩) n n] (w.alloc (.cells l U)).drew fun e w' => e = .returned (.tuple #[]) ∧ CB w0 w' b T (putAll cs (zeros js)) := by
  have hbl := h.lt
  refine (cints_any (w := (w.alloc (.cells l U)).drew) (g := w.heap.size) (b := b) (js := js) (cs := cs) (T := T) (Ptrs.new (heap_alloc_new w (.cells l U)) hl) hn ((Below.heap_alloc w (.cells l U) b hbl).trans h.cells) hj (by omega) (by show w.heap.size < (w.alloc (.cells l U)).heap.size; simp) hnn).mono ?_
  rintro e w' ⟨rfl, h1, h2⟩
  exact ⟨rfl, h1, ((h.but.alloc (.cells l U)).drew).trans h2 (fun i hi => .inl hi)⟩
theorem clongs_new {w0 w : World} {b n : Nat} {js : List Nat} {cs l : Array Value} {T U : TypeId} (h : CB w0 w b T cs) (hj : ∀ j ∈ js, j < cs.size) (hl : l = (js.map fun j => Value.pointer (some ⟨b, j, none⟩)).toArray) (hn : js.length = n) (hnn : n ≤ 100) :
    Calls Try.prog 97 #[.agg #[], .slice (some ⟨w.heap.size, 0, none⟩) n n] (w.alloc (.cells l U)).drew fun e w' => e = .returned (.tuple #[]) ∧ CB w0 w' b T (putAll cs (zeros js)) := by
  have hbl := h.lt
  refine (clongs_any (w := (w.alloc (.cells l U)).drew) (g := w.heap.size) (b := b) (js := js) (cs := cs) (T := T) (Ptrs.new (heap_alloc_new w (.cells l U)) hl) hn ((Below.heap_alloc w (.cells l U) b hbl).trans h.cells) hj (by omega) (by show w.heap.size < (w.alloc (.cells l U)).heap.size; simp) hnn).mono ?_
  rintro e w' ⟨rfl, h1, h2⟩
  exact ⟨rfl, h1, ((h.but.alloc (.cells l U)).drew).trans h2 (fun i hi => .inl hi)⟩
end Go.Proofs.Ytnpakjdgcmbcnaa

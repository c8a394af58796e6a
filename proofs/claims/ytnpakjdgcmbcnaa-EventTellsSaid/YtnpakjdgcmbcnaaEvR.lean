/- The reader's calls. -/
import Derived.Test.YtnpakjdgcmbcnaaEvE
import Derived.Test.YtnpakjdgcmbcnaaWrJ
import Derived.Test.YtnpakjdgcmbcnaaInts
namespace Go.Proofs.Ytnpakjdgcmbcnaa
open Go.RowKit
open Wir Evn

/-- So many numbers are read. -/
def nums : Nat → RS → List Int × RS
  | 0, s => ([], s)
  | n + 1, s => ((nums n s).1 ++ [(nums n s).2.num.1], (nums n s).2.num.2)
theorem nums_len : ∀ (n : Nat) (s : RS), (nums n s).1.length = n
  | 0, _ => rfl
  | n + 1, s => by simp [nums, nums_len n s]
/-- Cells js are set to numbers. -/
def sets (js : List Nat) (vs : List Int) : List (Nat × Value) := js.zip (vs.map fun v => Value.int .i64 v)
theorem sets_snoc (js : List Nat) (vs : List Int) (v : Int) (k : Nat) (hk : k < js.length) (hl : vs.length = k) : sets (js.take (k + 1)) (vs ++ [v]) = sets (js.take k) vs ++ [(js.getD k 0, Value.int .i64 v)] := by
  unfold sets
  rw [List.take_succ_eq_append_getElem hk, List.map_append, List.zip_append (by simp [hl]; omega), List.getD_eq_getElem?_getD, List.getElem?_eq_getElem hk]
  rfl
theorem putAll_append (cs : Array Value) (l k : List (Nat × Value)) : putAll cs (l ++ k) = putAll (putAll cs l) k := by simp [putAll]
/-- A reader at g, and a block b that is none of its own, behind w0. -/
structure RB (w0 w : World) (g b : Nat) (T : TypeId) (cs : Array Value) (s : RS) (O : Nat → Prop) : Prop where
  rdr : Rdr 86 w g s O
  cells : w.heap[b]? = some (.cells cs T (0, 0))
  far : ¬ O b
  but : But (fun k => O k ∨ k = b) w0 w
section
variable {w0 w w' : World} {g b : Nat} {T : TypeId} {cs : Array Value} {s : RS} {O : Nat → Prop}
theorem RB.start (h : Rdr 86 w g s O) (hc : w.heap[b]? = some (.cells cs T (0, 0))) (hb : ¬ O b) : RB w w g b T cs s O := ⟨h, hc, hb, But.refl _ _⟩
theorem RB.lt (h : RB w0 w g b T cs s O) : b < w.heap.size := lt_of_heap h.cells
theorem RB.on (h : RB w0 w g b T cs s O) (hb : Below w.heap.size w w') : RB w0 w' g b T cs s O :=
  ⟨h.rdr.below hb, (hb.block b h.lt).trans h.cells, h.far, h.but.trans (But.of_below (O := fun k => O k ∨ k = b) hb) (fun _ hi => .inl hi)⟩
theorem RB.drew (h : RB w0 w g b T cs s O) : RB w0 w.drew g b T cs s O := h.on (Below.drew (Below.refl _ _))
theorem RB.alloc (h : RB w0 w g b T cs s O) (o : Obj) : RB w0 (w.alloc o) g b T cs s O := h.on ((Below.refl _ _).alloc (Nat.le_refl _) o)
theorem RB.read {s' : RS} (h : RB w0 w g b T cs s O) (hr : Rdr 86 w' g s' O) (hb : But O w w') : RB w0 w' g b T cs s' O :=
  ⟨hr, (hb.block b h.lt h.far).trans h.cells, h.far, h.but.trans hb (fun _ hi => .inl (.inl hi))⟩
theorem RB.set_ (h : RB w0 w g b T cs s O) (j : Nat) (v : Value) : RB w0 (w.setCell ⟨b, j, none⟩ v) g b T (putAll cs [(j, v)]) s O :=
  ⟨h.rdr.same (fun k hk => Below.heap_setCell w ⟨b, j, none⟩ v k (fun e => h.far (by rw [← show k = b from e]; exact hk))) (by simp [World.setCell]), heap_setCell_same _ _ _ _ _ _ h.cells, h.far, h.but.setCell (p := ⟨b, j, none⟩) (.inl (.inr rfl)) v⟩
theorem RB.then_ {s' : RS} {cs' : Array Value} (h : RB w0 w g b T cs s O) (k : RB w w' g b T cs' s' O) : RB w0 w' g b T cs' s' O := ⟨k.rdr, k.cells, k.far, h.but.trans k.but (fun _ hi => .inl hi)⟩
theorem RB.cell (h : RB w0 w g b T cs s O) {j : Nat} {v : Value} (hv : cs[j]? = some v) : w.cell? ⟨b, j, none⟩ = some v ∧ w.frozen? ⟨b, j, none⟩ = false :=
  ⟨by rw [cell_of_row _ _ j _ _ _ h.cells]; exact hv, frozen_of_row _ _ j _ _ h.cells⟩
/-- What lay elsewhere is as it was. -/
theorem RB.keep (h : RB w0 w g b T cs s O) {a : Addr} {v : Value} (hc : w0.cell? a = some v) (h1 : ¬ O a.block) (h2 : a.block ≠ b) : w.cell? a = some v :=
  (World.cell?_of_block (w := w0) (h.but.block a.block (block_lt_of_cell hc) (by rintro (h | h); exact h1 h; exact h2 h))).trans hc
end
set_option linter.unusedSimpArgs false in
set_option maxRecDepth 100000 in
set_option maxHeartbeats 3200000 in
theorem rints_any {w0 w : World} {g gs b n : Nat} {T : TypeId} {cs : Array Value} {s : RS} {O : Nat → Prop} {js : List Nat} (h : RB w0 w g b T cs s O) (hp : Ptrs w gs b js) (hn : js.length = n) (hj : ∀ j ∈ js, j < cs.size) (hgs : ¬ O gs ∧ gs ≠ b) (hnn : n ≤ 100) :
    Calls Try.prog 75 #[.agg #[.pointer (some ⟨g, 0, none⟩)], .slice (some ⟨gs, 0, none⟩) n n] w fun e w' => e = .returned (.tuple #[]) ∧ RB w0 w' g b T (putAll cs (sets js (nums n s).1)) (nums n s).2 O := by
  have hgl : ∀ i, i < js.length → gs < w.heap.size := fun i hi => block_lt_of_cell (hp i hi)
  have HP := Lib.hid (And.intro hp (And.intro hn (And.intro hj (And.intro hgs hgl))))
  have H0 := Lib.hid h
  have HS := Lib.hid (RB.start (b := b) h.rdr h.cells h.far)
  clear hp hn hj hgs h hgl
  have HT : Hid (∀ (wx : World) (cs' : Array Value) (s' : RS), RB w wx g b T cs' s' O → ∀ i, i < js.length → wx.cell? ⟨gs, i, none⟩ = some (.pointer (some ⟨b, js.getD i 0, none⟩))) :=
    fun wx cs' s' k i hi => k.keep (HP.out.1 i hi) HP.out.2.2.2.1.1 HP.out.2.2.2.1.2
  have HX : Hid (∀ (wx : World) (cs' : Array Value) (s' : RS), RB w wx g b T cs' s' O → wx.cell? ⟨w.heap.size, 0, none⟩ = wx.cell? ⟨w.heap.size, 0, none⟩) := fun _ _ _ _ => rfl
  have HQ : Hid (¬ O w.heap.size ∧ w.heap.size ≠ b) := ⟨fun ho => by have := H0.out.rdr.lt _ ho; omega, by have := H0.out.lt; omega⟩
  have hb0 : (w.alloc (.cells #[.pointer (some ⟨g, 0, none⟩)] 50)).cell? ⟨w.heap.size, 0, none⟩ = some (.pointer (some ⟨g, 0, none⟩)) := cell_of_one (heap_alloc_new _ _)
  have HB0 := Lib.hid hb0
  clear hb0 HX
  go_enter Try.func75, Try.ntmps75
  go_wp2_with fail
  have HA := Lib.hid (HS.out.alloc (.cells #[.pointer (some ⟨g, 0, none⟩)] 50))
  generalize hwB : w.alloc (.cells #[.pointer (some ⟨g, 0, none⟩)] 50) = wB at *
  have HwB := Lib.hid hwB
  clear hwB
  generalize hq : w.heap.size = q at *
  have Hq := Lib.hid hq
  clear hq
  have HC : Hid (∀ (wx : World) (cs' : Array Value) (s' : RS), RB wB wx g b T cs' s' O → wx.cell? ⟨q, 0, none⟩ = some (.pointer (some ⟨g, 0, none⟩))) := fun wx cs' s' k => k.keep HB0.out HQ.out.1 HQ.out.2
  go_loopw [8] (fun i wx => ∃ k : Nat, k ≤ n ∧ i = .int .i64 (k : Int) ∧ RB wB wx g b T (putAll cs (sets (js.take k) (nums k s).1)) (nums k s).2 O) (fun i _ => n - (intOf i).toNat)
  case atStart => exact ⟨0, Nat.zero_le _, rfl, RB.start HA.out.rdr HA.out.cells HA.out.far⟩
  case round =>
    obtain ⟨k, hk, rfl, hm⟩ := hrel
    by_cases hlt : k < n
    · have hlt' : (k : Int) < (n : Int) := by omega
      have HL := Lib.hid (And.intro hk hlt)
      have hk' : k < js.length := by have := HP.out.2.1; omega
      have c0 := HT.out _ _ _ (HA.out.then_ hm) k hk'
      have c1 := HC.out _ _ _ hm
      have hx : js.getD k 0 < (putAll cs (sets (js.take k) (nums k s).1)).size := by
        rw [size_putAll]
        refine HP.out.2.2.1 _ ?_
        rw [List.getD_eq_getElem?_getD, List.getElem?_eq_getElem hk']
        exact List.getElem_mem _
      have HZ := Lib.hid (sets_snoc js (nums k s).1 (nums k s).2.num.1 k hk' (nums_len k s))
      have HN : Hid (nums (k + 1) s = ((nums k s).1 ++ [(nums k s).2.num.1], (nums k s).2.num.2)) := rfl
      have C := Lib.hid (num_any hm.rdr)
      generalize js.getD k 0 = x at c0 hx HZ
      have HB := Lib.hid (And.intro hm hx)
      clear hm hx
      go_wp2_with fail
      refine C.out.mono ?_
      rintro e w1 ⟨rfl, h1, h2⟩
      have h3 := HB.out.1.read h1 h2
      obtain ⟨v1, k1⟩ : ∃ v, w1.cell? ⟨b, x, none⟩ = some v := ⟨_, (h3.cell (Array.getElem?_eq_getElem HB.out.2)).1⟩
      have z1 := frozen_of_row _ _ x _ _ h3.cells
      have H3 := Lib.hid h3
      clear h1 h2 h3 HB C c0 c1
      generalize (nums k s).2.num = r at *
      go_wp2
      go_roundw
      case rel =>
        refine ⟨k + 1, by have := HL.out; omega, by go_num, ?_⟩
        rw [HN.out]
        simp only
        rw [HZ.out, putAll_append]
        exact H3.out.set_ _ _
      case measure => have := HL.out; simp [intOf]; omega
    · have hlt' : ¬ (k : Int) < (n : Int) := by omega
      have ek : k = n := by omega
      subst ek
      have HB := Lib.hid hm
      clear hm
      go_wp2
      go_end0
      refine ⟨rfl, ?_⟩
      have h9 := HB.out
      rw [List.take_of_length_le (by have h1 := HP.out.2.1; omega)] at h9
      have h8 := H0.out.then_ (HA.out.then_ h9)
      exact h8
theorem rints_new {w0 w : World} {g b n : Nat} {T U : TypeId} {cs l : Array Value} {s : RS} {O : Nat → Prop} {js : List Nat} (h : RB w0 w g b T cs s O) (hj : ∀ j ∈ js, j < cs.size) (hl : l = (js.map fun j => Value.pointer (some ⟨b, j, none⟩)).toArray) (hn : js.length = n) (hnn : n ≤ 100) :
    Calls Try.prog 75 #[.agg #[.pointer (some ⟨g, 0, none⟩)], .slice (some ⟨w.heap.size, 0, none⟩) n n] (w.alloc (.cells l U)).drew fun e w' => e = .returned (.tuple #[]) ∧ RB w0 w' g b T (putAll cs (sets js (nums n s).1)) (nums n s).2 O :=
  rints_any (h.alloc (.cells l U)).drew (Ptrs.new (heap_alloc_new w (.cells l U)) hl) hn hj ⟨fun ho => by have := h.rdr.lt _ ho; omega, by have := h.lt; omega⟩ hnn
set_option linter.unusedSimpArgs false in
set_option maxRecDepth 100000 in
set_option maxHeartbeats 3200000 in
theorem rlongs_any {w0 w : World} {g gs b n : Nat} {T : TypeId} {cs : Array Value} {s : RS} {O : Nat → Prop} {js : List Nat} (h : RB w0 w g b T cs s O) (hp : Ptrs w gs b js) (hn : js.length = n) (hj : ∀ j ∈ js, j < cs.size) (hgs : ¬ O gs ∧ gs ≠ b) (hnn : n ≤ 100) :
    Calls Try.prog 76 #[.agg #[.pointer (some ⟨g, 0, none⟩)], .slice (some ⟨gs, 0, none⟩) n n] w fun e w' => e = .returned (.tuple #[]) ∧ RB w0 w' g b T (putAll cs (sets js (nums n s).1)) (nums n s).2 O := by
  have hgl : ∀ i, i < js.length → gs < w.heap.size := fun i hi => block_lt_of_cell (hp i hi)
  have HP := Lib.hid (And.intro hp (And.intro hn (And.intro hj (And.intro hgs hgl))))
  have H0 := Lib.hid h
  have HS := Lib.hid (RB.start (b := b) h.rdr h.cells h.far)
  clear hp hn hj hgs h hgl
  have HT : Hid (∀ (wx : World) (cs' : Array Value) (s' : RS), RB w wx g b T cs' s' O → ∀ i, i < js.length → wx.cell? ⟨gs, i, none⟩ = some (.pointer (some ⟨b, js.getD i 0, none⟩))) :=
    fun wx cs' s' k i hi => k.keep (HP.out.1 i hi) HP.out.2.2.2.1.1 HP.out.2.2.2.1.2
  have HX : Hid (∀ (wx : World) (cs' : Array Value) (s' : RS), RB w wx g b T cs' s' O → wx.cell? ⟨w.heap.size, 0, none⟩ = wx.cell? ⟨w.heap.size, 0, none⟩) := fun _ _ _ _ => rfl
  have HQ : Hid (¬ O w.heap.size ∧ w.heap.size ≠ b) := ⟨fun ho => by have := H0.out.rdr.lt _ ho; omega, by have := H0.out.lt; omega⟩
  have hb0 : (w.alloc (.cells #[.pointer (some ⟨g, 0, none⟩)] 50)).cell? ⟨w.heap.size, 0, none⟩ = some (.pointer (some ⟨g, 0, none⟩)) := cell_of_one (heap_alloc_new _ _)
  have HB0 := Lib.hid hb0
  clear hb0 HX
  go_enter Try.func76, Try.ntmps76
  go_wp2_with fail
  have HA := Lib.hid (HS.out.alloc (.cells #[.pointer (some ⟨g, 0, none⟩)] 50))
  generalize hwB : w.alloc (.cells #[.pointer (some ⟨g, 0, none⟩)] 50) = wB at *
  have HwB := Lib.hid hwB
  clear hwB
  generalize hq : w.heap.size = q at *
  have Hq := Lib.hid hq
  clear hq
  have HC : Hid (∀ (wx : World) (cs' : Array Value) (s' : RS), RB wB wx g b T cs' s' O → wx.cell? ⟨q, 0, none⟩ = some (.pointer (some ⟨g, 0, none⟩))) := fun wx cs' s' k => k.keep HB0.out HQ.out.1 HQ.out.2
  go_loopw [8] (fun i wx => ∃ k : Nat, k ≤ n ∧ i = .int .i64 (k : Int) ∧ RB wB wx g b T (putAll cs (sets (js.take k) (nums k s).1)) (nums k s).2 O) (fun i _ => n - (intOf i).toNat)
  case atStart => exact ⟨0, Nat.zero_le _, rfl, RB.start HA.out.rdr HA.out.cells HA.out.far⟩
  case round =>
    obtain ⟨k, hk, rfl, hm⟩ := hrel
    by_cases hlt : k < n
    · have hlt' : (k : Int) < (n : Int) := by omega
      have HL := Lib.hid (And.intro hk hlt)
      have hk' : k < js.length := by have := HP.out.2.1; omega
      have c0 := HT.out _ _ _ (HA.out.then_ hm) k hk'
      have c1 := HC.out _ _ _ hm
      have hx : js.getD k 0 < (putAll cs (sets (js.take k) (nums k s).1)).size := by
        rw [size_putAll]
        refine HP.out.2.2.1 _ ?_
        rw [List.getD_eq_getElem?_getD, List.getElem?_eq_getElem hk']
        exact List.getElem_mem _
      have HZ := Lib.hid (sets_snoc js (nums k s).1 (nums k s).2.num.1 k hk' (nums_len k s))
      have HN : Hid (nums (k + 1) s = ((nums k s).1 ++ [(nums k s).2.num.1], (nums k s).2.num.2)) := rfl
      have C := Lib.hid (num_any hm.rdr)
      generalize js.getD k 0 = x at c0 hx HZ
      have HB := Lib.hid (And.intro hm hx)
      clear hm hx
      go_wp2_with fail
      refine C.out.mono ?_
      rintro e w1 ⟨rfl, h1, h2⟩
      have h3 := HB.out.1.read h1 h2
      obtain ⟨v1, k1⟩ : ∃ v, w1.cell? ⟨b, x, none⟩ = some v := ⟨_, (h3.cell (Array.getElem?_eq_getElem HB.out.2)).1⟩
      have z1 := frozen_of_row _ _ x _ _ h3.cells
      have H3 := Lib.hid h3
      clear h1 h2 h3 HB C c0 c1
      generalize (nums k s).2.num = r at *
      go_wp2
      go_roundw
      case rel =>
        refine ⟨k + 1, by have := HL.out; omega, by go_num, ?_⟩
        rw [HN.out]
        simp only
        rw [HZ.out, putAll_append]
        exact H3.out.set_ _ _
      case measure => have := HL.out; simp [intOf]; omega
    · have hlt' : ¬ (k : Int) < (n : Int) := by omega
      have ek : k = n := by omega
      subst ek
      have HB := Lib.hid hm
      clear hm
      go_wp2
      go_end0
      refine ⟨rfl, ?_⟩
      have h9 := HB.out
      rw [List.take_of_length_le (by have h1 := HP.out.2.1; omega)] at h9
      have h8 := H0.out.then_ (HA.out.then_ h9)
      exact h8
theorem rlongs_new {w0 w : World} {g b n : Nat} {T U : TypeId} {cs l : Array Value} {s : RS} {O : Nat → Prop} {js : List Nat} (h : RB w0 w g b T cs s O) (hj : ∀ j ∈ js, j < cs.size) (hl : l = (js.map fun j => Value.pointer (some ⟨b, j, none⟩)).toArray) (hn : js.length = n) (hnn : n ≤ 100) :
    Calls Try.prog 76 #[.agg #[.pointer (some ⟨g, 0, none⟩)], .slice (some ⟨w.heap.size, 0, none⟩) n n] (w.alloc (.cells l U)).drew fun e w' => e = .returned (.tuple #[]) ∧ RB w0 w' g b T (putAll cs (sets js (nums n s).1)) (nums n s).2 O :=
  rlongs_any (h.alloc (.cells l U)).drew (Ptrs.new (heap_alloc_new w (.cells l U)) hl) hn hj ⟨fun ho => by have := h.rdr.lt _ ho; omega, by have := h.lt; omega⟩ hnn
theorem rcount_new {w0 w : World} {g b : Nat} {T : TypeId} {cs : Array Value} {s : RS} {O : Nat → Prop} (h : RB w0 w g b T cs s O) (n m : Int) (hm : -9223372036854775808 ≤ m ∧ m ≤ 9223372036854775807) (hs : IntKind.i64.wrap (s.int 0 m).1 = (s.int 0 m).1) :
    Calls Try.prog 74 #[.agg #[.pointer (some ⟨g, 0, none⟩)], .int .i64 n, .int .i64 m] w fun e w' => e = .returned (.int .i64 (s.int 0 m).1) ∧ RB w0 w' g b T cs (s.int 0 m).2 O := by
  have C := Lib.hid (int_any (h.rdr.below ((Below.refl _ _).alloc (Nat.le_refl _) (.cells #[.pointer (some ⟨g, 0, none⟩)] 50))) 0 m)
  have H := Lib.hid (h.alloc (.cells #[.pointer (some ⟨g, 0, none⟩)] 50))
  clear h
  go_enter Try.func74, Try.ntmps74
  go_wp2_with fail
  refine C.out.mono ?_
  rintro e w1 ⟨rfl, h1, h2⟩
  have h3 := H.out.read h1 h2
  have H3 := Lib.hid h3
  clear h1 h2 h3 H C
  go_wp2
  go_ret
  exact ⟨rfl, H3.out⟩
theorem rtext_new {w0 w : World} {g b j : Nat} {T : TypeId} {cs : Array Value} {s : RS} {O : Nat → Prop} (h : RB w0 w g b T cs s O) (hj : j < cs.size) (m : Int) :
    Calls Try.prog 77 #[.agg #[.pointer (some ⟨g, 0, none⟩)], .pointer (some ⟨b, j, none⟩), .int .i64 m] w fun e w' => e = .returned (.tuple #[]) ∧ ∃ a c, RB w0 w' g b T (putAll cs [(j, .slice a (s.text m).1.length c)]) (s.text m).2 O ∧
      Sl w' w'.heap.size a (s.text m).1.length c (s.text m).1 ∧ ∀ k o, a = some ⟨k, o, none⟩ → w.heap.size ≤ k := by
  have C := Lib.hid (text_any (h.rdr.below ((Below.refl _ _).alloc (Nat.le_refl _) (.cells #[.pointer (some ⟨g, 0, none⟩)] 50))) m)
  have H := Lib.hid (And.intro (h.alloc (.cells #[.pointer (some ⟨g, 0, none⟩)] 50)) (And.intro hj h.lt))
  have hz : w.heap.size ≤ (w.alloc (.cells #[.pointer (some ⟨g, 0, none⟩)] 50)).heap.size := by simp
  have HZ := Lib.hid hz
  clear h hz hj
  go_enter Try.func77, Try.ntmps77
  go_wp2_with fail
  refine C.out.mono ?_
  rintro e w1 ⟨a, c, rfl, hs, hn, h1, h2⟩
  have h3 := H.out.1.read h1 h2
  obtain ⟨v1, k1⟩ : ∃ v, w1.cell? ⟨b, j, none⟩ = some v := ⟨_, (h3.cell (Array.getElem?_eq_getElem H.out.2.1)).1⟩
  have z1 := frozen_of_row _ _ j _ _ h3.cells
  have H3 := Lib.hid (And.intro h3 (And.intro hs (And.intro hn H.out.2.2)))
  clear h1 h2 h3 H C hs hn
  generalize hR : s.text m = r at *
  have HR := Lib.hid hR
  clear hR
  go_wp2
  go_end0
  obtain ⟨h3, hs, hn, hbl⟩ := H3.out
  rw [HR.out]
  refine ⟨rfl, a, c, h3.set_ _ _, ?_, fun k o e => Nat.le_trans HZ.out (hn k o e)⟩
  exact hs.same_ (by simp [World.setCell]) (fun hp k o e => Below.heap_setCell w1 ⟨b, j, none⟩ _ k (by have := Nat.le_trans HZ.out (hn k o e); show k ≠ b; omega))
end Go.Proofs.Ytnpakjdgcmbcnaa

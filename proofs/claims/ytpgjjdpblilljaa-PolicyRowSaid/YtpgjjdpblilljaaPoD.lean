/- Policy: the program's map of kinds. -/
import Derived.Test.YtpgjjdpblilljaaPoC
import Derived.WideMake
namespace Go.Proofs.Ytpgjjdpblilljaa
set_option linter.unusedSimpArgs false
set_option linter.unusedVariables false
open Go.RowKit
open Evn Plc
attribute [local go_sem] Oper.semAt_some

theorem run_upd (w : World) (es : Array MapEntry) (c : Nat) (k : Int) (v : Value) (hf : Instr.findNow (.int .i64) (.int .i64 k) es.toList 0 = some none) :
    (Instr.mapUpdate 50 (.map (some w.heap.size)) (.int .i64 k) v).run Try.prog (w.alloc (.map es c)) = .ok () (w.alloc (.map (es.push { key := .int .i64 k, val := v, born := c }) (c + 1))) := by
  have hb : (w.alloc (.map es c)).heap[w.heap.size]? = some (.map es c) := heap_alloc_new _ _
  have hk := Try.underlying3
  have hm := Try.underlying50
  have hc : (Instr.checkKey false 10000 3 (.int .i64 k)).run Try.prog (w.alloc (.map es c)) = .ok () (w.alloc (.map es c)) := MapKept.run_checkKey (k := .int .i64 k) hk (by simp [MapKept.IsKey]) false 9999
  simp [Instr.mapUpdate, run_underlying hm, MapKept.run_getObj_map hb, hc, MapKept.run_findKey hk hf, MapKept.run_setObj_map _ hb, Result.andThen]
  have e : ∀ o o' : Obj, (w.alloc o).heap.setIfInBounds w.heap.size o' = (w.alloc o').heap := by
    intro o o'
    show (w.heap.push o).setIfInBounds _ _ = w.heap.push o'
    apply Array.ext'
    rw [Array.toList_setIfInBounds, Array.toList_push, Array.toList_push, ← Array.length_toList, List.set_append_right _ _ (Nat.le_refl _)]
    simp
  rw [e]
  rfl
theorem run_look (w : World) (r : Nat) (es : Array MapEntry) (c : Nat) (k : Int) (i : Nat) (v : Value) (hb : w.heap[r]? = some (.map es c)) (hf : Instr.findNow (.int .i64) (.int .i64 k) es.toList 0 = some (some (i, v))) :
    (Instr.lookup 50 (.map (some r)) (.int .i64 k) true).run Try.prog w = .ok (.tuple #[v, .bool true]) w := by
  have hk := Try.underlying3
  have hm := Try.underlying50
  have hc : (Instr.checkKey es.isEmpty 10000 3 (.int .i64 k)).run Try.prog w = .ok () w := MapKept.run_checkKey (k := .int .i64 k) hk (by simp [MapKept.IsKey]) es.isEmpty 9999
  simp [Instr.lookup, run_underlying hm, MapKept.run_getObj_map hb, hc, MapKept.run_findKey hk hf, Result.andThen]
theorem run_miss (w : World) (r : Nat) (es : Array MapEntry) (c : Nat) (k : Int) (hb : w.heap[r]? = some (.map es c)) (hf : Instr.findNow (.int .i64) (.int .i64 k) es.toList 0 = some none) :
    (Instr.lookup 50 (.map (some r)) (.int .i64 k) true).run Try.prog w = .ok (.tuple #[.agg #[.nilFunc, .nilFunc], .bool false]) w := by
  have hk := Try.underlying3
  have hm := Try.underlying50
  have hc : (Instr.checkKey es.isEmpty 10000 3 (.int .i64 k)).run Try.prog w = .ok () w := MapKept.run_checkKey (k := .int .i64 k) hk (by simp [MapKept.IsKey]) es.isEmpty 9999
  have hz : (zeroValue 48).run Try.prog w = .ok (.agg #[.nilFunc, .nilFunc]) w := by kernel_rfl
  simp [Instr.lookup, run_underlying hm, MapKept.run_getObj_map hb, hc, MapKept.run_findKey hk hf, Result.andThen, hz]

def kept : Value := .func (.func 35) #[] #[]
def kf1 (g : Nat) : Value := .agg #[kept, .func (.func 36) #[] #[.pointer (some ⟨g, 0, none⟩), .pointer (some ⟨g + 1, 0, none⟩), .pointer (some ⟨g + 1 + 1, 0, none⟩)]]
def kf2 (g : Nat) : Value := .agg #[kept, .func (.func 38) #[] #[.pointer (some ⟨g, 0, none⟩), .pointer (some ⟨g + 1, 0, none⟩), .pointer (some ⟨g + 1 + 1, 0, none⟩)]]
def kf3 (g : Nat) : Value := .agg #[.func (.func 40) #[] #[.pointer (some ⟨g, 0, none⟩), .pointer (some ⟨g + 1 + 1, 0, none⟩)], .func (.func 42) #[] #[.pointer (some ⟨g + 1, 0, none⟩)]]
def kf4 (g : Nat) : Value := .agg #[kept, .func (.func 43) #[] #[.pointer (some ⟨g, 0, none⟩), .pointer (some ⟨g + 1 + 1 + 1, 0, none⟩)]]
def kfs (g : Nat) : Array MapEntry := #[{ key := .int .i64 1, val := kf1 g, born := 0 }, { key := .int .i64 2, val := kf2 g, born := 1 }, { key := .int .i64 3, val := kf3 g, born := 2 }, { key := .int .i64 4, val := kf4 g, born := 3 }]
/-- What 'kinds' leaves: four boxes, and the map. -/
structure KX (w x : World) (g : Nat) (p : Pl) (a1 a2 : Option Addr) (c1 c2 : Nat) (c u t : Int) : Prop where
  bel : Below w.heap.size w x
  le : w.heap.size ≤ g
  bp : PBx x g p a1 a2 c1 c2
  bc : x.cell? ⟨g + 1, 0, none⟩ = some (.int .i64 c)
  bu : x.cell? ⟨g + 1 + 1, 0, none⟩ = some (.int .i64 u)
  bt : x.cell? ⟨g + 1 + 1 + 1, 0, none⟩ = some (.int .i64 t)
  mp : x.heap[g + 1 + 1 + 1 + 1]? = some (.map (kfs g) 4)
theorem KX.on {w x y : World} {g : Nat} {p : Pl} {a1 a2 : Option Addr} {c1 c2 : Nat} {c u t : Int} (h : KX w x g p a1 a2 c1 c2 c u t) (hb : Below x.heap.size x y) : KX w y g p a1 a2 c1 c2 c u t :=
  ⟨bel2 h.bel hb, h.le, h.bp.on hb, (hb.cell (p := ⟨g + 1, 0, none⟩) (block_lt_of_cell h.bc)).trans h.bc, (hb.cell (p := ⟨g + 1 + 1, 0, none⟩) (block_lt_of_cell h.bu)).trans h.bu, (hb.cell (p := ⟨g + 1 + 1 + 1, 0, none⟩) (block_lt_of_cell h.bt)).trans h.bt, (hb.block _ (lt_of_heap h.mp)).trans h.mp⟩
theorem KX.new (w : World) (p : Pl) (a1 a2 : Option Addr) (c1 c2 : Nat) (c u t : Int) (es : Array MapEntry) (n : Nat) (h1 : es = kfs w.heap.size) (h2 : n = 4) :
    KX w (((((w.alloc (.cells #[.int .i64 p.kind, .int .i64 p.target, .slice a1 p.bands.length c1, .int .i64 p.kp, .int .i64 p.ki, .int .i64 p.kd, .int .i64 p.period, .slice a2 p.slots.length c2] 25)).alloc (.cells #[.int .i64 c] 3)).alloc (.cells #[.int .i64 u] 2)).alloc (.cells #[.int .i64 t] 2)).alloc (.map es n)) w.heap.size p a1 a2 c1 c2 c u t := by
  subst h1 h2
  obtain ⟨a, ha⟩ : ∃ a, a = w.alloc (.cells #[.int .i64 p.kind, .int .i64 p.target, .slice a1 p.bands.length c1, .int .i64 p.kp, .int .i64 p.ki, .int .i64 p.kd, .int .i64 p.period, .slice a2 p.slots.length c2] 25) := ⟨_, rfl⟩
  obtain ⟨b, hb⟩ : ∃ b, b = a.alloc (.cells #[.int .i64 c] 3) := ⟨_, rfl⟩
  obtain ⟨d, hd⟩ : ∃ d, d = b.alloc (.cells #[.int .i64 u] 2) := ⟨_, rfl⟩
  obtain ⟨e, he⟩ : ∃ e, e = d.alloc (.cells #[.int .i64 t] 2) := ⟨_, rfl⟩
  obtain ⟨f, hf⟩ : ∃ f, f = e.alloc (.map (kfs w.heap.size) 4) := ⟨_, rfl⟩
  rw [← ha, ← hb, ← hd, ← he, ← hf]
  have sa : a.heap.size = w.heap.size + 1 := by rw [ha]; simp
  have sb : b.heap.size = w.heap.size + 1 + 1 := by rw [hb]; simp [sa]
  have sd : d.heap.size = w.heap.size + 1 + 1 + 1 := by rw [hd]; simp [sb]
  have se : e.heap.size = w.heap.size + 1 + 1 + 1 + 1 := by rw [he]; simp [sd]
  have ba : Below w.heap.size w a := by rw [ha]; exact (Below.refl _ _).alloc (Nat.le_refl _) _
  have bb : Below a.heap.size a b := by rw [hb]; exact (Below.refl _ _).alloc (Nat.le_refl _) _
  have bd : Below b.heap.size b d := by rw [hd]; exact (Below.refl _ _).alloc (Nat.le_refl _) _
  have be : Below d.heap.size d e := by rw [he]; exact (Below.refl _ _).alloc (Nat.le_refl _) _
  have bf : Below e.heap.size e f := by rw [hf]; exact (Below.refl _ _).alloc (Nat.le_refl _) _
  have k0 : PBx a w.heap.size p a1 a2 c1 c2 := by rw [ha]; exact heap_alloc_new _ _
  have k1 : b.cell? ⟨w.heap.size + 1, 0, none⟩ = some (.int .i64 c) := by rw [hb, ← sa]; exact cell_of_one (heap_alloc_new _ _)
  have k2 : d.cell? ⟨w.heap.size + 1 + 1, 0, none⟩ = some (.int .i64 u) := by rw [hd, ← sb]; exact cell_of_one (heap_alloc_new _ _)
  have k3 : e.cell? ⟨w.heap.size + 1 + 1 + 1, 0, none⟩ = some (.int .i64 t) := by rw [he, ← sd]; exact cell_of_one (heap_alloc_new _ _)
  have k4 : f.heap[w.heap.size + 1 + 1 + 1 + 1]? = some (.map (kfs w.heap.size) 4) := by rw [hf, ← se]; exact heap_alloc_new _ _
  have bdf := bel2 be bf
  have bbf := bel2 bd bdf
  have baf := bel2 bb bbf
  exact ⟨bel2 ba baf, Nat.le_refl _, k0.on baf, (bbf.cell (p := ⟨w.heap.size + 1, 0, none⟩) (block_lt_of_cell k1)).trans k1, (bdf.cell (p := ⟨w.heap.size + 1 + 1, 0, none⟩) (block_lt_of_cell k2)).trans k2, (bf.cell (p := ⟨w.heap.size + 1 + 1 + 1, 0, none⟩) (block_lt_of_cell k3)).trans k3, k4⟩
set_option maxHeartbeats 1600000 in
theorem kinds_any (p : Pl) (a1 a2 : Option Addr) (c1 c2 : Nat) (c u t : Int) (w : World) :
    Calls Try.prog 22 #[plV p a1 a2 c1 c2, .int .i64 c, .int .i64 u, .int .i64 t] w fun r w' => ∃ g, r = .returned (.map (some (g + 1 + 1 + 1 + 1))) ∧ KX w w' g p a1 a2 c1 c2 c u t := by
  obtain ⟨x, hx⟩ : ∃ x, x = (((w.alloc (.cells #[.int .i64 p.kind, .int .i64 p.target, .slice a1 p.bands.length c1, .int .i64 p.kp, .int .i64 p.ki, .int .i64 p.kd, .int .i64 p.period, .slice a2 p.slots.length c2] 25)).alloc (.cells #[.int .i64 c] 3)).alloc (.cells #[.int .i64 u] 2)).alloc (.cells #[.int .i64 t] 2) := ⟨_, rfl⟩
  have hs : x.heap.size = w.heap.size + 1 + 1 + 1 + 1 := by rw [hx]; simp
  have HK := fun es n h1 h2 => Lib.hid (KX.new w p a1 a2 c1 c2 c u t es n h1 h2)
  rw [← hx] at HK
  have HX := Lib.hid hx
  have HS := Lib.hid hs
  clear hx hs
  unfold plV
  have hmm := @run_makeMap Try.prog
  have u1 := fun v => run_upd x #[] 0 1 v (by rfl)
  have u2 := fun v1 v => run_upd x #[{ key := .int .i64 1, val := v1, born := 0 }] 1 2 v (by rfl)
  have u3 := fun v1 v2 v => run_upd x #[{ key := .int .i64 1, val := v1, born := 0 }, { key := .int .i64 2, val := v2, born := 1 }] 2 3 v (by rfl)
  have u4 := fun v1 v2 v3 v => run_upd x #[{ key := .int .i64 1, val := v1, born := 0 }, { key := .int .i64 2, val := v2, born := 1 }, { key := .int .i64 3, val := v3, born := 2 }] 3 4 v (by rfl)
  simp only [List.push_toArray, List.nil_append, List.cons_append, Nat.zero_add, Nat.reduceAdd] at u1 u2 u3 u4
  go_enter Try.func22, Try.ntmps22
  go_upto_region 2 with fail
  rw [← HX.out]
  go_wp2
  go_ret
  refine ⟨w.heap.size, ?_, (HK _ _ ?_ ?_).out⟩
  · rw [← HS.out]; rfl
  · rfl
  · rfl
end Go.Proofs.Ytpgjjdpblilljaa

/- Sized keeps what may be; four boxes. -/
import Derived.Test.YtcfehddnccdejaaQlD
import Derived.Deep.CutRange
import Derived.Deep.RegionHeld
import Derived.Lib.MinMax
namespace Go.Proofs.Ytcfehddnccdejaa
set_option linter.unusedSimpArgs false
set_option linter.unusedVariables false
open Go.RowKit
open Evn Plt
attribute [local go_sem] Oper.semAt_some

theorem results_two_rows {P : Program} {fn : Func} {p u : Tmp} {ty t2 : TypeId} (h : fn.results = #[.cell p ty, .cell u t2]) (tmps : Array Value) (w : World) (g g2 : Nat) (t tt : TypeId) (cs cs2 : Array Value) (fr fr2 : Nat × Nat) (d d2 : TypeDesc)
    (hp : tmps.getD p undef = .pointer (some ⟨g, 0, none⟩)) (hg : w.heap[g]? = some (.cells cs t fr))
    (hu : P.underlying ty = some d) (hd : (match d with | .struct _ | .array _ _ => true | _ => false) = true) (hi : (P.info? ty).map (·.size) = some cs.size)
    (hp2 : tmps.getD u undef = .pointer (some ⟨g2, 0, none⟩)) (hg2 : w.heap[g2]? = some (.cells cs2 tt fr2))
    (hu2 : P.underlying t2 = some d2) (hd2 : (match d2 with | .struct _ | .array _ _ => true | _ => false) = true) (hi2 : (P.info? t2).map (·.size) = some cs2.size) :
    (results fn tmps).run P w = .ok (.tuple #[.agg cs, .agg cs2]) w := by
  have hp' : tmps[p]?.getD undef = .pointer (some ⟨g, 0, none⟩) := by simpa using hp
  have hp2' : tmps[u]?.getD undef = .pointer (some ⟨g2, 0, none⟩) := by simpa using hp2
  simp [results, h, hp', hp2', asAddr, run_loadVar_row w g t ty cs fr d hg hu hd hi, run_loadVar_row w g2 tt t2 cs2 fr2 d2 hg2 hu2 hd2 hi2]
theorem four (w : World) (c : Cf) (p : Pt) (a : Option Addr) (k : Nat) : let x := (((w.alloc (.cells #[.int .i64 c.min, .int .i64 c.max, .int .i64 c.rate, .int .i64 c.stable, .int .i64 c.cap, .int .i64 c.delay, .int .i64 c.slack, .int .i64 c.window, .int .i64 c.margin, .int .i64 c.ceil, .int .i64 c.probe, .int .i64 c.breach] 23)).alloc (.cells #[.int .i64 p.ready, .slice a p.start.length k, .int .i64 p.wait, .int .i64 p.util] 26)).alloc (.cells #[.int .i64 0, .slice none 0 0, .int .i64 0, .int .i64 0] 26)).alloc (.cells #[.int .i64 0, .bool false] 31); Below w.heap.size w x ∧ CBx x w.heap.size c ∧ PtAt x (w.heap.size + 1) p a k ∧
    x.heap[w.heap.size + 2]? = some (.cells #[.int .i64 0, .slice none 0 0, .int .i64 0, .int .i64 0] 26 (0, 0)) ∧ x.heap[w.heap.size + 3]? = some (.cells #[.int .i64 0, .bool false] 31 (0, 0)) ∧ x.heap.size = w.heap.size + 4 := by
  have b1 := (Below.refl w.heap.size w).alloc (Nat.le_refl _) (.cells #[.int .i64 c.min, .int .i64 c.max, .int .i64 c.rate, .int .i64 c.stable, .int .i64 c.cap, .int .i64 c.delay, .int .i64 c.slack, .int .i64 c.window, .int .i64 c.margin, .int .i64 c.ceil, .int .i64 c.probe, .int .i64 c.breach] 23)
  have b2 := (Below.refl (w.alloc (.cells #[.int .i64 c.min, .int .i64 c.max, .int .i64 c.rate, .int .i64 c.stable, .int .i64 c.cap, .int .i64 c.delay, .int .i64 c.slack, .int .i64 c.window, .int .i64 c.margin, .int .i64 c.ceil, .int .i64 c.probe, .int .i64 c.breach] 23)).heap.size (w.alloc (.cells #[.int .i64 c.min, .int .i64 c.max, .int .i64 c.rate, .int .i64 c.stable, .int .i64 c.cap, .int .i64 c.delay, .int .i64 c.slack, .int .i64 c.window, .int .i64 c.margin, .int .i64 c.ceil, .int .i64 c.probe, .int .i64 c.breach] 23))).alloc (Nat.le_refl _) (.cells #[.int .i64 p.ready, .slice a p.start.length k, .int .i64 p.wait, .int .i64 p.util] 26)
  have b3 := (Below.refl ((w.alloc (.cells #[.int .i64 c.min, .int .i64 c.max, .int .i64 c.rate, .int .i64 c.stable, .int .i64 c.cap, .int .i64 c.delay, .int .i64 c.slack, .int .i64 c.window, .int .i64 c.margin, .int .i64 c.ceil, .int .i64 c.probe, .int .i64 c.breach] 23)).alloc (.cells #[.int .i64 p.ready, .slice a p.start.length k, .int .i64 p.wait, .int .i64 p.util] 26)).heap.size ((w.alloc (.cells #[.int .i64 c.min, .int .i64 c.max, .int .i64 c.rate, .int .i64 c.stable, .int .i64 c.cap, .int .i64 c.delay, .int .i64 c.slack, .int .i64 c.window, .int .i64 c.margin, .int .i64 c.ceil, .int .i64 c.probe, .int .i64 c.breach] 23)).alloc (.cells #[.int .i64 p.ready, .slice a p.start.length k, .int .i64 p.wait, .int .i64 p.util] 26))).alloc (Nat.le_refl _) (.cells #[.int .i64 0, .slice none 0 0, .int .i64 0, .int .i64 0] 26)
  have b4 := (Below.refl (((w.alloc (.cells #[.int .i64 c.min, .int .i64 c.max, .int .i64 c.rate, .int .i64 c.stable, .int .i64 c.cap, .int .i64 c.delay, .int .i64 c.slack, .int .i64 c.window, .int .i64 c.margin, .int .i64 c.ceil, .int .i64 c.probe, .int .i64 c.breach] 23)).alloc (.cells #[.int .i64 p.ready, .slice a p.start.length k, .int .i64 p.wait, .int .i64 p.util] 26)).alloc (.cells #[.int .i64 0, .slice none 0 0, .int .i64 0, .int .i64 0] 26)).heap.size (((w.alloc (.cells #[.int .i64 c.min, .int .i64 c.max, .int .i64 c.rate, .int .i64 c.stable, .int .i64 c.cap, .int .i64 c.delay, .int .i64 c.slack, .int .i64 c.window, .int .i64 c.margin, .int .i64 c.ceil, .int .i64 c.probe, .int .i64 c.breach] 23)).alloc (.cells #[.int .i64 p.ready, .slice a p.start.length k, .int .i64 p.wait, .int .i64 p.util] 26)).alloc (.cells #[.int .i64 0, .slice none 0 0, .int .i64 0, .int .i64 0] 26))).alloc (Nat.le_refl _) (.cells #[.int .i64 0, .bool false] 31)
  have k1 : CBx (w.alloc (.cells #[.int .i64 c.min, .int .i64 c.max, .int .i64 c.rate, .int .i64 c.stable, .int .i64 c.cap, .int .i64 c.delay, .int .i64 c.slack, .int .i64 c.window, .int .i64 c.margin, .int .i64 c.ceil, .int .i64 c.probe, .int .i64 c.breach] 23)) w.heap.size c := heap_alloc_new _ _
  have k2 : PtAt ((w.alloc (.cells #[.int .i64 c.min, .int .i64 c.max, .int .i64 c.rate, .int .i64 c.stable, .int .i64 c.cap, .int .i64 c.delay, .int .i64 c.slack, .int .i64 c.window, .int .i64 c.margin, .int .i64 c.ceil, .int .i64 c.probe, .int .i64 c.breach] 23)).alloc (.cells #[.int .i64 p.ready, .slice a p.start.length k, .int .i64 p.wait, .int .i64 p.util] 26)) (w.heap.size + 1) p a k := la2 _ _ _
  have k3 := la3 w (.cells #[.int .i64 c.min, .int .i64 c.max, .int .i64 c.rate, .int .i64 c.stable, .int .i64 c.cap, .int .i64 c.delay, .int .i64 c.slack, .int .i64 c.window, .int .i64 c.margin, .int .i64 c.ceil, .int .i64 c.probe, .int .i64 c.breach] 23) (.cells #[.int .i64 p.ready, .slice a p.start.length k, .int .i64 p.wait, .int .i64 p.util] 26) (.cells #[.int .i64 0, .slice none 0 0, .int .i64 0, .int .i64 0] 26)
  have k4 : ((((w.alloc (.cells #[.int .i64 c.min, .int .i64 c.max, .int .i64 c.rate, .int .i64 c.stable, .int .i64 c.cap, .int .i64 c.delay, .int .i64 c.slack, .int .i64 c.window, .int .i64 c.margin, .int .i64 c.ceil, .int .i64 c.probe, .int .i64 c.breach] 23)).alloc (.cells #[.int .i64 p.ready, .slice a p.start.length k, .int .i64 p.wait, .int .i64 p.util] 26)).alloc (.cells #[.int .i64 0, .slice none 0 0, .int .i64 0, .int .i64 0] 26)).alloc (.cells #[.int .i64 0, .bool false] 31)).heap[w.heap.size + 3]? = some (.cells #[.int .i64 0, .bool false] 31) := by
    have e : w.heap.size + 3 = (((w.alloc (.cells #[.int .i64 c.min, .int .i64 c.max, .int .i64 c.rate, .int .i64 c.stable, .int .i64 c.cap, .int .i64 c.delay, .int .i64 c.slack, .int .i64 c.window, .int .i64 c.margin, .int .i64 c.ceil, .int .i64 c.probe, .int .i64 c.breach] 23)).alloc (.cells #[.int .i64 p.ready, .slice a p.start.length k, .int .i64 p.wait, .int .i64 p.util] 26)).alloc (.cells #[.int .i64 0, .slice none 0 0, .int .i64 0, .int .i64 0] 26)).heap.size := by simp
    rw [e]; exact heap_alloc_new _ _
  exact ⟨bel2 (bel2 (bel2 b1 b2) b3) b4, ((k1.on b2).on b3).on b4, (k2.on b3).on b4, (b4.block _ (lt_of_heap k3)).trans k3, k4, by simp⟩
theorem sized_ok {d : Int} {p : Pt} {want : Int} (hn : NOk p) (hd : 0 ≤ d ∧ d ≤ 8) (hw : 0 ≤ want ∧ want ≤ 1000) : all (sized d p want) = want ∧ NOk (sized d p want) := by
  have hs := sm_le hn.nums
  have r1 := hn.r1
  have r2 := hn.r2
  unfold sized
  split
  · rename_i h
    split
    · rename_i h2
      refine ⟨by unfold all; simp only; unfold all at *; omega, ⟨by simp only; omega, by simp only; unfold all at *; omega, hn.len, hn.nums⟩⟩
    · rename_i h2
      obtain ⟨E, hE⟩ : ∃ E : Nat, d = (E : Int) + 1 := ⟨(d - 1).toNat, by omega⟩
      have he : d.toNat = E + 1 := by omega
      rw [he]
      refine ⟨by unfold all; simp only; rw [sm_put (by omega)]; unfold all at *; omega, ⟨r1, r2, ?_, fun x hx => ?_⟩⟩
      · simp only; unfold put; rw [List.length_set, pad_len]; have := hn.len; omega
      · simp only at hx
        unfold put at hx
        have hpn : ∀ y ∈ pad p.start (E + 1), 0 ≤ y ∧ y ≤ 1000 := fun y hy => by
          unfold pad at hy
          rcases List.mem_append.1 hy with h | h
          · exact hn.nums y h
          · have := (List.mem_replicate.1 h).2; omega
        rcases List.mem_or_eq_of_mem_set hx with h3 | h3
        · exact hpn x h3
        · have hl : E + 1 - 1 < (pad p.start (E + 1)).length := by rw [pad_len]; omega
          have hg := getD_ok hpn hl
          have hsp := sm_set hl 0
          have hnn := sm_nn (l := (pad p.start (E + 1)).set (E + 1 - 1) 0) (fun y hy => by
            rcases List.mem_or_eq_of_mem_set hy with h4 | h4
            · exact (hpn y h4).1
            · omega)
          rw [sm_pad] at hsp
          unfold all at *
          omega
  · rename_i h
    have hb := back_sum p.start (all p - want)
    have hl := back_left (l := p.start) (n := all p - want) (fun x hx => (hn.nums x hx).1) (by omega)
    have hbn := back_nums (l := p.start) (n := all p - want) hn.nums (by omega)
    have hs2 := sm_nn (l := (back p.start (all p - want)).1) (fun x hx => (hbn x hx).1)
    refine ⟨by unfold all; simp only; unfold all at *; omega, ⟨by simp only; unfold all at *; omega, by simp only; omega, by simp only; rw [back_len]; exact hn.len, hbn⟩⟩
end Go.Proofs.Ytcfehddnccdejaa

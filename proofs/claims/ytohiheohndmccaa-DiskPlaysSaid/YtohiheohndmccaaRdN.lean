/- The reference's disk: Rename that renames. -/
import Derived.Test.YtohiheohndmccaaRdM
namespace Go.Proofs.Ytohiheohndmccaa
open Go.RowKit
open Go.Maps
attribute [local go_sem] Oper.semAt_some

theorem ridx_none : ∀ (l : List REnt) (s : List UInt8), ¬ ridx l s < l.length → ∀ e ∈ l, e.s ≠ s := by
  intro l s hn e he hs
  obtain ⟨j, hj⟩ := List.getElem?_of_mem he
  have hskip : ∀ (l : List REnt) (j : Nat) (e : REnt), l[j]? = some e → e.s = s → ridx l s ≤ j := by
    intro l
    induction l with
    | nil => intro j e hj; simp at hj
    | cons y l ih =>
      intro j e hj hs
      unfold ridx
      split
      · exact Nat.zero_le _
      · rename_i hy
        cases j with
        | zero =>
          have : y = e := by simpa using hj
          subst this
          exact absurd hs hy
        | succ j =>
          have := ih j e (by simpa using hj) hs
          omega
  have h1 := hskip l j e hj hs
  have h2 := (List.getElem?_eq_some_iff.1 hj).1
  omega
theorem ridx_gone (l : List REnt) (s : List UInt8) (h : fat (rD l) s = none) : ¬ ridx l s < l.length := by
  intro hi
  rw [ridx_fat, List.getElem?_eq_getElem hi] at h
  cases h
section
variable {w : World} {rp : Nat} {t : St} {O : Nat → Prop} {a : Option Addr} {c : Nat} {es : List REnt}
/-- A file is taken out. -/
theorem RdC.drop_ (h : RdC w rp t O a c es) {w1 : World} (hb : Below w.heap.size w w1) {i : Nat} {v : Value} (ho : OwnFl w1 w.heap.size v (es.take i ++ es.drop (i + 1))) {s : List UInt8} (hs : ridx es s = i) (hi : i < es.length) :
    ∃ a' c', v = .slice a' (es.length - 1) c' ∧ RdC (w1.setCell ⟨rp, 1, none⟩ (.slice a' (es.length - 1) c')) rp ⟨t.D.del (.string s), t.room, t.fuse, t.fails⟩ (fun k => O k ∨ (w.heap.size ≤ k ∧ k < w1.heap.size)) a' c' (es.take i ++ es.drop (i + 1)) ∧ But O w (w1.setCell ⟨rp, 1, none⟩ (.slice a' (es.length - 1) c')) ∧
      (∀ k, k < w.heap.size → k ≠ rp → (w1.setCell ⟨rp, 1, none⟩ (.slice a' (es.length - 1) c')).heap[k]? = w.heap[k]?) ∧ w.heap.size ≤ (w1.setCell ⟨rp, 1, none⟩ (.slice a' (es.length - 1) c')).heap.size := by
  obtain ⟨a', c', rfl⟩ := ho.form
  have hl : (es.take i ++ es.drop (i + 1)).length = es.length - 1 := by simp; omega
  have hd := rD_del es s h.once (by rw [hs]; exact hi)
  rw [hs] at hd
  obtain ⟨h1, h2⟩ := h.relayC (D' := t.D.del (.string s)) hb ho (by rw [h.D_, hd]) (h.good.del _) (fun e he => .inl (by
    rcases List.mem_append.1 he with he | he
    · exact List.mem_of_mem_take he
    · exact List.mem_of_mem_drop he))
  rw [hl] at h1 h2
  refine ⟨a', c', by rw [hl], h1, h2, fun k hk hn => (Below.heap_setCell w1 ⟨rp, 1, none⟩ _ k hn).trans (hb.block k hk), by have := hb.size; simpa [World.setCell] using this⟩
/-- The box of the file that is renamed; what put is called with. -/
theorem rn_end {w1 : World} {t1 : St} (h1 : RdC w1 rp t1 O a c es) {e0 : REnt} (he0 : e0 ∈ es) {x : World} {O2 : Nat → Prop} {a2 : Option Addr} {c2 : Nat} {es2 : List REnt} {D2 : FS} (tn : ByteArray)
    (hx : RdC x rp ⟨D2, t1.room, t1.fuse, t1.fails⟩ O2 a2 c2 es2) (hb : But O w1 x) (hO2 : ∀ k, O2 k → O k ∨ w1.heap.size + 1 ≤ k) (hO : ∀ k, O k → O2 k)
    (keep : ∀ k, k < w1.heap.size + 1 → k ≠ rp → x.heap[k]? = (w1.alloc (.cells #[.string ⟨e0.s.toArray⟩, .slice e0.a e0.bs.length e0.c, .int .i64 (e0.l : Int)] 60)).heap[k]?)
    (hlen : es2.length ≤ 63) (hne : ∀ e ∈ es2, e.s ≠ tn.data.toList) (hG : Good (D2.put (.string tn.data.toList) (.held e0.fl)) t1.room) :
    x.cell? ⟨w1.heap.size, 0, none⟩ = some (.string ⟨e0.s.toArray⟩) ∧ x.frozen? ⟨w1.heap.size, 0, none⟩ = false ∧
    (x.setCell ⟨w1.heap.size, 0, none⟩ (.string tn)).cell? ⟨w1.heap.size, 0, none⟩ = some (.string tn) ∧
    (x.setCell ⟨w1.heap.size, 0, none⟩ (.string tn)).cell? ⟨w1.heap.size, 1, none⟩ = some (.slice e0.a e0.bs.length e0.c) ∧
    (x.setCell ⟨w1.heap.size, 0, none⟩ (.string tn)).cell? ⟨w1.heap.size, 2, none⟩ = some (.int .i64 (e0.l : Int)) ∧
    Calls Try.prog 49 #[.pointer (some ⟨rp, 0, none⟩), .agg #[.string tn, .slice e0.a e0.bs.length e0.c, .int .i64 (e0.l : Int)]] (x.setCell ⟨w1.heap.size, 0, none⟩ (.string tn)) fun e w' => e = .returned (.tuple #[]) ∧ RMv w1 rp O ⟨D2.put (.string tn.data.toList) (.held e0.fl), t1.room, t1.fuse, t1.fails⟩ w' := by
  have hrl := h1.lt rp h1.rpO
  have hA := (keep w1.heap.size (by omega) (by omega)).trans (heap_alloc_new w1 _)
  have hyA := heap_setCell_same x w1.heap.size 0 _ _ (.string tn) hA
  have hoth : ∀ k, k ≠ w1.heap.size → (x.setCell ⟨w1.heap.size, 0, none⟩ (.string tn)).heap[k]? = x.heap[k]? := fun k hk => Below.heap_setCell x ⟨w1.heap.size, 0, none⟩ _ k hk
  have hz : (x.setCell ⟨w1.heap.size, 0, none⟩ (.string tn)).heap.size = x.heap.size := by simp [World.setCell]
  have hnA : ∀ k, O2 k → k ≠ w1.heap.size := fun k hk => by
    rcases hO2 k hk with h2 | h2
    · have := h1.lt k h2; omega
    · omega
  have hy : RdC (x.setCell ⟨w1.heap.size, 0, none⟩ (.string tn)) rp ⟨D2, t1.room, t1.fuse, t1.fails⟩ O2 a2 c2 es2 := hx.same (fun k hk => hoth k (hnA k hk)) (by omega)
  have hby := h1.bytes e0 he0
  have hsx := hb.size
  have PU := rput_any hy ⟨tn.data.toList, e0.a, e0.c, e0.bs, e0.l⟩ hlen hne hG ⟨hby.1.same_ (by omega) (fun hp b o e => by
    have h2 := hby.2 hp b o e
    have h3 := h1.lt b h2.1
    exact ((hoth b (by omega)).trans (keep b (by omega) h2.2.1)).trans (Below.heap_alloc _ _ _ h3)), fun hp b o e => ⟨hO b (hby.2 hp b o e).1, (hby.2 hp b o e).2.1⟩⟩
  have hstr : (⟨tn.data.toList.toArray⟩ : ByteArray) = tn := by cases tn; simp
  rw [hstr] at PU
  refine ⟨(cell_of_row _ _ 0 _ _ _ hA).trans rfl, frozen_of_row _ _ 0 _ _ hA, (cell_of_row _ _ 0 _ _ _ hyA).trans rfl, (cell_of_row _ _ 1 _ _ _ hyA).trans rfl, (cell_of_row _ _ 2 _ _ _ hyA).trans rfl, PU.mono ?_⟩
  rintro e w' ⟨he, O', k1, k2, k3⟩
  exact ⟨he, O', k1, (hb.setCell (p := ⟨w1.heap.size, 0, none⟩) (.inr (Nat.le_refl _)) (.string tn)).trans k2 (fun i hi => (hO2 i hi).imp id (fun h => by omega)), fun k hk => by
    rcases k3 k hk with h2 | h2
    · exact (hO2 k h2).imp id (fun h => by omega)
    · exact .inr (by omega)⟩
end
end Go.Proofs.Ytohiheohndmccaa

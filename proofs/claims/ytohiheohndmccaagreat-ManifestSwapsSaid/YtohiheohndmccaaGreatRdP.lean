/- The reference's disk: Rename. The reference's disk: Rename that renames. The reference's disk: Rename that renames. The reference's disk: Write and Rename, whole. -/
import Derived.Test.YtohiheohndmccaaGreatRdK
namespace Go.Proofs.YtohiheohndmccaaGreat
set_option linter.unusedSimpArgs false
section
open Go.RowKit
open Go.Maps
attribute [local go_sem] Oper.semAt_some

section
variable {w : World} {rp : Nat} {t : St} {O : Nat → Prop} {a : Option Addr} {c : Nat} {es : List REnt}
set_option linter.unusedSimpArgs false in
set_option maxRecDepth 100000 in
set_option maxHeartbeats 6400000 in
/-- Rename, where nothing is renamed. -/
theorem rrename_early (h : RdC w rp t O a c es) (s tn : ByteArray) (hsz : tn.size ≤ maxLen) (hearly : t.fuse = 0 ∨ nmOk tn.data.toList = false ∨ ¬ ridx es s.data.toList < es.length) :
    Calls Tryz.prog 32 #[.pointer (some ⟨rp, 0, none⟩), .string s, .string tn] w fun e w' => e = .returned (.int .i64 (t.rename s.data.toList tn.data.toList).1) ∧ RMv w rp O (t.rename s.data.toList tn.data.toList).2 w' := by
  by_cases hf : t.fuse = 0
  · have e : t.rename s.data.toList tn.data.toList = (42, t) := by unfold St.rename; rw [if_pos hf]
    rw [e]
    have CD := Lib.hid (rcall_dead h hf)
    have HR := Lib.hid (rowner ⟨a, c, es, h⟩)
    clear h
    go_enter Tryz.func32, Tryz.ntmps32
    go_wp2_with fail
    refine CD.out.mono ?_
    rintro e1 w1 ⟨rfl, rfl⟩
    go_wp2
    go_ret
    exact ⟨rfl, HR.out⟩
  have CD := Lib.hid (rcall_do h hf)
  have NM := Lib.hid (rname_any tn hsz)
  have hcap := h.len_
  by_cases hnm : nmOk tn.data.toList = false
  · have e : t.rename s.data.toList tn.data.toList = (1, t.burnt) := by unfold St.rename; rw [if_neg hf, if_pos hnm]
    rw [e]
    rw [hnm] at NM
    clear h e
    go_enter Tryz.func32, Tryz.ntmps32
    go_wp2_with fail
    refine CD.out.mono ?_
    rintro e1 w1 ⟨rfl, h1, b1⟩
    have HR := Lib.hid (RMv.then b1 (rowner ⟨a, c, es, h1⟩))
    clear h1 b1 CD
    go_wp2_with fail
    refine (NM.out _).mono ?_
    rintro e1 w2 ⟨rfl, rfl⟩
    go_wp2
    go_ret
    exact ⟨rfl, HR.out⟩
  · have hi := (hearly.resolve_left hf).resolve_left hnm
    have e : t.rename s.data.toList tn.data.toList = (3, t.burnt) := by unfold St.rename; rw [if_neg hf, if_neg hnm, h.gone_ hi]
    have hnm1 : nmOk tn.data.toList = true := by simpa using hnm
    rw [e]
    rw [hnm1] at NM
    clear h e
    go_enter Tryz.func32, Tryz.ntmps32
    go_wp2_with fail
    refine CD.out.mono ?_
    rintro e1 w1 ⟨rfl, h1, b1⟩
    have AT := rat_any h1 s
    unfold ratI at AT
    rw [if_neg hi] at AT
    have AT := Lib.hid AT
    have HR := Lib.hid (RMv.then b1 (rowner ⟨a, c, es, h1⟩))
    clear h1 b1 CD
    go_wp2_with fail
    refine (NM.out _).mono ?_
    rintro e1 w2 ⟨rfl, rfl⟩
    go_wp2_with fail
    refine AT.out.mono ?_
    rintro e1 w2 ⟨rfl, rfl⟩
    go_wp2
    go_ret
    exact ⟨rfl, HR.out⟩
end
end
section
open Go.RowKit
open Go.Maps
attribute [local go_sem] Oper.semAt_some

theorem ridx_none : ∀ (l : List REnt) (s : List UInt8), ¬ ridx l s < l.length → ∀ e ∈ l, e.s ≠ s := by
  intro l s hn e he hs
  obtain ⟨j, hj⟩ := List.getElem?_of_mem he
  have hskip : ∀ (l : List REnt) (j : Nat) (e : REnt), l[j]? = some e → e.s = s → ridx l s ≤ j := by
    intro l
    induction l with
    | nil => intro j e hj; simp at hj
    | cons y l ih =>
      intro j e hj hs
      unfold ridx
      split
      · exact Nat.zero_le _
      · rename_i hy
        cases j with
        | zero =>
          have : y = e := by simpa using hj
          subst this
          exact absurd hs hy
        | succ j =>
          have := ih j e (by simpa using hj) hs
          omega
  have h1 := hskip l j e hj hs
  have h2 := (List.getElem?_eq_some_iff.1 hj).1
  omega
theorem ridx_gone (l : List REnt) (s : List UInt8) (h : fat (rD l) s = none) : ¬ ridx l s < l.length := by
  intro hi
  rw [ridx_fat, List.getElem?_eq_getElem hi] at h
  cases h
section
variable {w : World} {rp : Nat} {t : St} {O : Nat → Prop} {a : Option Addr} {c : Nat} {es : List REnt}
/-- A file is taken out. -/
theorem RdC.drop_ (h : RdC w rp t O a c es) {w1 : World} (hb : Below w.heap.size w w1) {i : Nat} {v : Value} (ho : OwnFl w1 w.heap.size v (es.take i ++ es.drop (i + 1))) {s : List UInt8} (hs : ridx es s = i) (hi : i < es.length) :
    ∃ a' c', v = .slice a' (es.length - 1) c' ∧ RdC (w1.setCell ⟨rp, 1, none⟩ (.slice a' (es.length - 1) c')) rp ⟨t.D.del (.string s), t.room, t.fuse, t.fails⟩ (fun k => O k ∨ (w.heap.size ≤ k ∧ k < w1.heap.size)) a' c' (es.take i ++ es.drop (i + 1)) ∧ But O w (w1.setCell ⟨rp, 1, none⟩ (.slice a' (es.length - 1) c')) ∧
      (∀ k, k < w.heap.size → k ≠ rp → (w1.setCell ⟨rp, 1, none⟩ (.slice a' (es.length - 1) c')).heap[k]? = w.heap[k]?) ∧ w.heap.size ≤ (w1.setCell ⟨rp, 1, none⟩ (.slice a' (es.length - 1) c')).heap.size := by
  obtain ⟨a', c', rfl⟩ := ho.form
  have hl : (es.take i ++ es.drop (i + 1)).length = es.length - 1 := by simp; omega
  have hd := rD_del es s h.once (by rw [hs]; exact hi)
  rw [hs] at hd
  obtain ⟨h1, h2⟩ := h.relayC (D' := t.D.del (.string s)) hb ho (by rw [h.D_, hd]) (h.good.del _) (fun e he => .inl (by
    rcases List.mem_append.1 he with he | he
    · exact List.mem_of_mem_take he
    · exact List.mem_of_mem_drop he))
  rw [hl] at h1 h2
  refine ⟨a', c', by rw [hl], h1, h2, fun k hk hn => (Below.heap_setCell w1 ⟨rp, 1, none⟩ _ k hn).trans (hb.block k hk), by have := hb.size; simpa [World.setCell] using this⟩
/-- The box of the file that is renamed; what put is called with. -/
theorem rn_end {w1 : World} {t1 : St} (h1 : RdC w1 rp t1 O a c es) {e0 : REnt} (he0 : e0 ∈ es) {x : World} {O2 : Nat → Prop} {a2 : Option Addr} {c2 : Nat} {es2 : List REnt} {D2 : FS} (tn : ByteArray)
    (hx : RdC x rp ⟨D2, t1.room, t1.fuse, t1.fails⟩ O2 a2 c2 es2) (hb : But O w1 x) (hO2 : ∀ k, O2 k → O k ∨ w1.heap.size + 1 ≤ k) (hO : ∀ k, O k → O2 k)
    (keep : ∀ k, k < w1.heap.size + 1 → k ≠ rp → x.heap[k]? = (w1.alloc (.cells #[.string ⟨e0.s.toArray⟩, .slice e0.a e0.bs.length e0.c, .int .i64 (e0.l : Int)] 70)).heap[k]?)
    (hlen : es2.length ≤ 63) (hne : ∀ e ∈ es2, e.s ≠ tn.data.toList) (hG : Good (D2.put (.string tn.data.toList) (.held e0.fl)) t1.room) :
    x.cell? ⟨w1.heap.size, 0, none⟩ = some (.string ⟨e0.s.toArray⟩) ∧ x.frozen? ⟨w1.heap.size, 0, none⟩ = false ∧
    (x.setCell ⟨w1.heap.size, 0, none⟩ (.string tn)).cell? ⟨w1.heap.size, 0, none⟩ = some (.string tn) ∧
    (x.setCell ⟨w1.heap.size, 0, none⟩ (.string tn)).cell? ⟨w1.heap.size, 1, none⟩ = some (.slice e0.a e0.bs.length e0.c) ∧
    (x.setCell ⟨w1.heap.size, 0, none⟩ (.string tn)).cell? ⟨w1.heap.size, 2, none⟩ = some (.int .i64 (e0.l : Int)) ∧
    Calls Tryz.prog 70 #[.pointer (some ⟨rp, 0, none⟩), .agg #[.string tn, .slice e0.a e0.bs.length e0.c, .int .i64 (e0.l : Int)]] (x.setCell ⟨w1.heap.size, 0, none⟩ (.string tn)) fun e w' => e = .returned (.tuple #[]) ∧ RMv w1 rp O ⟨D2.put (.string tn.data.toList) (.held e0.fl), t1.room, t1.fuse, t1.fails⟩ w' := by
  have hrl := h1.lt rp h1.rpO
  have hA := (keep w1.heap.size (by omega) (by omega)).trans (heap_alloc_new w1 _)
  have hyA := heap_setCell_same x w1.heap.size 0 _ _ (.string tn) hA
  have hoth : ∀ k, k ≠ w1.heap.size → (x.setCell ⟨w1.heap.size, 0, none⟩ (.string tn)).heap[k]? = x.heap[k]? := fun k hk => Below.heap_setCell x ⟨w1.heap.size, 0, none⟩ _ k hk
  have hz : (x.setCell ⟨w1.heap.size, 0, none⟩ (.string tn)).heap.size = x.heap.size := by simp [World.setCell]
  have hnA : ∀ k, O2 k → k ≠ w1.heap.size := fun k hk => by
    rcases hO2 k hk with h2 | h2
    · have := h1.lt k h2; omega
    · omega
  have hy : RdC (x.setCell ⟨w1.heap.size, 0, none⟩ (.string tn)) rp ⟨D2, t1.room, t1.fuse, t1.fails⟩ O2 a2 c2 es2 := hx.same (fun k hk => hoth k (hnA k hk)) (by omega)
  have hby := h1.bytes e0 he0
  have hsx := hb.size
  have PU := rput_any hy ⟨tn.data.toList, e0.a, e0.c, e0.bs, e0.l⟩ hlen hne hG ⟨hby.1.same_ (by omega) (fun hp b o e => by
    have h2 := hby.2 hp b o e
    have h3 := h1.lt b h2.1
    exact ((hoth b (by omega)).trans (keep b (by omega) h2.2.1)).trans (Below.heap_alloc _ _ _ h3)), fun hp b o e => ⟨hO b (hby.2 hp b o e).1, (hby.2 hp b o e).2.1⟩⟩
  have hstr : (⟨tn.data.toList.toArray⟩ : ByteArray) = tn := by cases tn; simp
  rw [hstr] at PU
  refine ⟨(cell_of_row _ _ 0 _ _ _ hA).trans rfl, frozen_of_row _ _ 0 _ _ hA, (cell_of_row _ _ 0 _ _ _ hyA).trans rfl, (cell_of_row _ _ 1 _ _ _ hyA).trans rfl, (cell_of_row _ _ 2 _ _ _ hyA).trans rfl, PU.mono ?_⟩
  rintro e w' ⟨he, O', k1, k2, k3⟩
  exact ⟨he, O', k1, (hb.setCell (p := ⟨w1.heap.size, 0, none⟩) (.inr (Nat.le_refl _)) (.string tn)).trans k2 (fun i hi => (hO2 i hi).imp id (fun h => by omega)), fun k hk => by
    rcases k3 k hk with h2 | h2
    · exact (hO2 k h2).imp id (fun h => by omega)
    · exact .inr (by omega)⟩
end
end
section
open Go.RowKit
open Go.Maps
attribute [local go_sem] Oper.semAt_some

section
variable {w : World} {rp : Nat} {t : St} {O : Nat → Prop} {a : Option Addr} {c : Nat} {es : List REnt}
set_option linter.unusedSimpArgs false in
set_option maxRecDepth 100000 in
set_option maxHeartbeats 6400000 in
/-- Rename of a file that is there. -/
theorem rrename_at (h : RdC w rp t O a c es) (s tn : ByteArray) (hsz : tn.size ≤ maxLen) (hf : ¬ t.fuse = 0) (hnm1 : nmOk tn.data.toList = true) (hi : ridx es s.data.toList < es.length) :
    Calls Tryz.prog 32 #[.pointer (some ⟨rp, 0, none⟩), .string s, .string tn] w fun e w' => e = .returned (.int .i64 (t.rename s.data.toList tn.data.toList).1) ∧ RMv w rp O (t.rename s.data.toList tn.data.toList).2 w' := by
  have CD := Lib.hid (rcall_do h hf)
  have NM := Lib.hid (rname_any tn hsz)
  have hcap := h.len_
  rw [hnm1] at NM
  obtain ⟨e0, he0, hfat⟩ : ∃ e0, es[ridx es s.data.toList]? = some e0 ∧ fat t.D s.data.toList = some e0.fl := by
    obtain ⟨e0, g, h0, hf0, _⟩ := h.here hi
    exact ⟨e0, h0, hf0⟩
  obtain ⟨g, hg⟩ : ∃ g, a = some ⟨g, 0, none⟩ := by obtain ⟨g, hg, _⟩ := h.at_ (by omega); exact ⟨g, hg⟩
  subst hg
  have e : t.rename s.data.toList tn.data.toList = (0, { t.burnt with D := (t.D.del (.string s.data.toList)).put (.string tn.data.toList) (.held e0.fl) }) := by
    unfold St.rename; rw [if_neg hf, if_neg (by rw [hnm1]; decide), hfat]
  rw [e]
  have hG := good_rename h.good hfat hnm1
  clear h e
  obtain ⟨es1, hes1⟩ : ∃ es1, es1 = es.take (ridx es s.data.toList) ++ es.drop (ridx es s.data.toList + 1) := ⟨_, rfl⟩
  have hl1 : es1.length = es.length - 1 := by rw [hes1]; simp; omega
  go_enter Tryz.func32, Tryz.ntmps32
  go_wp2_with fail
  refine CD.out.mono ?_
  rintro e1 w1 ⟨rfl, h1, b1⟩
  have AT := rat_any h1 s
  unfold ratI at AT
  rw [if_pos hi] at AT
  have AT := Lib.hid AT
  have c1 := h1.cell.2.1
  obtain ⟨g', hg', _, _, hgl, _, _, hcs⟩ := h1.at_ (by omega)
  have hgg : g' = g := by injection hg' with hg'; injection hg' with hg'; exact hg'.symm
  subst hgg
  obtain ⟨q0, q1, q2⟩ := hcs _ e0 he0
  have B1 := Lib.hid b1
  have hrl1 := h1.lt rp h1.rpO
  have hA0 : Below w1.heap.size w1 (w1.alloc (.cells #[.string ⟨e0.s.toArray⟩, .slice e0.a e0.bs.length e0.c, .int .i64 (e0.l : Int)] 70)) := (Below.refl _ _).alloc (Nat.le_refl _) _
  have hAR := h1.below hA0
  have c1A := far_cellR c1 _ hA0
  have z1A := hAR.cell.2.2.2.2 1
  have zA : (w1.alloc (.cells #[.string ⟨e0.s.toArray⟩, .slice e0.a e0.bs.length e0.c, .int .i64 (e0.l : Int)] 70)).heap.size = w1.heap.size + 1 := by simp
  have hrA : rp < (w1.alloc (.cells #[.string ⟨e0.s.toArray⟩, .slice e0.a e0.bs.length e0.c, .int .i64 (e0.l : Int)] 70)).heap.size := by rw [zA]; omega
  have WT := Lib.hid (rwithout_any es _ es.length c (ridx es s.data.toList) _ hAR.rfs hi hcap)
  have EN := Lib.hid (fun (x : World) (O2 : Nat → Prop) (a2 : Option Addr) (c2 : Nat) (es2 : List REnt) (D2 : FS) => rn_end (x := x) (O2 := O2) (a2 := a2) (c2 := c2) (es2 := es2) (D2 := D2) h1 (List.mem_of_getElem? he0) tn)
  have DR := Lib.hid (fun (w2 : World) (v : Value) (hx : Below (w1.alloc (.cells #[.string ⟨e0.s.toArray⟩, .slice e0.a e0.bs.length e0.c, .int .i64 (e0.l : Int)] 70)).heap.size (w1.alloc (.cells #[.string ⟨e0.s.toArray⟩, .slice e0.a e0.bs.length e0.c, .int .i64 (e0.l : Int)] 70)) w2) (ho : OwnFl w2 (w1.alloc (.cells #[.string ⟨e0.s.toArray⟩, .slice e0.a e0.bs.length e0.c, .int .i64 (e0.l : Int)] 70)).heap.size v (es.take (ridx es s.data.toList) ++ es.drop (ridx es s.data.toList + 1))) => hAR.drop_ hx ho rfl hi)
  obtain ⟨n9, hn9⟩ : ∃ n9, n9 = es.length - 1 := ⟨_, rfl⟩
  rw [← hes1] at WT DR
  rw [← hn9] at DR hl1
  have hn63 : n9 ≤ 63 := by omega
  clear hn9
  have HA0 := Lib.hid (And.intro hA0 h1)
  clear h1 b1 CD hcs hAR hes1 hA0
  generalize ridx es s.data.toList = i at *
  go_wp2_with fail
  refine (NM.out _).mono ?_
  rintro e1 w2 ⟨rfl, rfl⟩
  go_wp2_with fail
  refine AT.out.mono ?_
  rintro e1 w2 ⟨rfl, rfl⟩
  go_wp2_with fail
  with_reducible refine (WT.out).mono ?_
  rintro e1 w3 ⟨v, rfl, ho, hb⟩
  obtain ⟨a9, c9, hv9, hC, hbC, keepC, hszC⟩ := DR.out w3 v hb ho
  subst hv9
  have x1 := (hb.cell (p := ⟨rp, 1, none⟩) hrA).trans c1A
  have y1 := (World.frozen?_of_block (w := (w1.alloc (.cells #[.string ⟨e0.s.toArray⟩, .slice e0.a e0.bs.length e0.c, .int .i64 (e0.l : Int)] 70))) (a := ⟨rp, 1, none⟩) (hb.block rp hrA)).trans z1A
  rw [zA] at hC keepC hszC
  have hbC1 : But O w1 (w3.setCell ⟨rp, 1, none⟩ (.slice a9 n9 c9)) := (But.of_below HA0.out.1).trans hbC (fun i hi => .inl hi)
  clear hbC
  have AT2 := rat_any hC tn
  unfold ratI at AT2
  have HC := Lib.hid (And.intro hC (And.intro hbC1 keepC))
  clear ho hb WT DR
  have cC := hC.cell.2.1
  have zC := hC.cell.2.2.2.2 1
  have hrC := hC.lt rp hC.rpO
  rw [hl1] at cC
  by_cases hk : ridx es1 tn.data.toList < es1.length
  · rw [if_pos hk] at AT2
    have AT2 := Lib.hid AT2
    have WT2 := Lib.hid (rwithout_any es1 a9 n9 c9 (ridx es1 tn.data.toList) _ (by have h9 := hC.rfs; rw [hl1] at h9; exact h9) (by omega) (by omega))
    have DR2 := Lib.hid (fun (w2 : World) (v : Value) (hx : Below (w3.setCell ⟨rp, 1, none⟩ (.slice a9 n9 c9)).heap.size (w3.setCell ⟨rp, 1, none⟩ (.slice a9 n9 c9)) w2) (ho : OwnFl w2 (w3.setCell ⟨rp, 1, none⟩ (.slice a9 n9 c9)).heap.size v (es1.take (ridx es1 tn.data.toList) ++ es1.drop (ridx es1 tn.data.toList + 1))) => hC.drop_ hx ho rfl hk)
    obtain ⟨es2, hes2⟩ : ∃ es2, es2 = es1.take (ridx es1 tn.data.toList) ++ es1.drop (ridx es1 tn.data.toList + 1) := ⟨_, rfl⟩
    have hl2 : es2.length = es1.length - 1 := by rw [hes2]; simp; omega
    obtain ⟨n8, hn8⟩ : ∃ n8, n8 = es1.length - 1 := ⟨_, rfl⟩
    rw [← hes2] at WT2 DR2
    rw [← hn8] at DR2 hl2
    have hn62 : n8 ≤ 63 := by omega
    clear hn8
    clear hC hbC1 keepC
    have hj : ridx es1 tn.data.toList < n9 := by omega
    clear hes2
    generalize ridx es1 tn.data.toList = j at *
    go_wp2_with fail
    refine AT2.out.mono ?_
    rintro e1 w4 ⟨rfl, rfl⟩
    go_wp2_with fail
    with_reducible refine (WT2.out).mono ?_
    rintro e1 w4 ⟨v, rfl, ho, hb⟩
    obtain ⟨a8, c8, hv8, hE, hbE, keepE, hszE⟩ := DR2.out w4 v hb ho
    subst hv8
    have x2 := (hb.cell (p := ⟨rp, 1, none⟩) hrC).trans cC
    have y2 := (World.frozen?_of_block (w := (w3.setCell ⟨rp, 1, none⟩ (.slice a9 n9 c9))) (a := ⟨rp, 1, none⟩) (hb.block rp hrC)).trans zC
    have hgone : ∀ e ∈ es2, e.s ≠ tn.data.toList := ridx_none es2 _ (ridx_gone es2 _ (by rw [← hE.D_]; exact fat_del_same _))
    obtain ⟨p0, pz, p1, p2, p3, PUx⟩ := EN.out _ _ _ _ _ _ hE (HC.out.2.1.trans hbE (fun i hi => hi.imp id (fun h => by omega))) (fun k hk => by
      rcases hk with (hk | hk) | hk
      · exact .inl hk
      · exact .inr hk.1
      · exact .inr (by omega)) (fun k hk => .inl (.inl hk)) (fun k hk hn => (keepE k (by omega) hn).trans (HC.out.2.2 k hk hn)) (by omega) hgone (by rw [← put_eq]; exact hG)
    rw [← put_eq] at PUx
    have PU := Lib.hid PUx
    clear PUx hE hbE keepE WT2 DR2 ho hb hgone
    go_wp2_with fail
    with_reducible refine PU.out.mono ?_
    rintro e1 w6 ⟨rfl, hmv⟩
    have HF := Lib.hid (RMv.then B1.out hmv)
    clear hmv PU
    go_wp2
    go_ret
    exact ⟨rfl, HF.out⟩
  · rw [if_neg hk] at AT2
    have AT2 := Lib.hid AT2
    obtain ⟨p0, pz, p1, p2, p3, PUx⟩ := EN.out _ _ _ _ _ _ hC hbC1 (fun k hk => hk.imp id (fun h => h.1)) (fun k hk => .inl hk) keepC (by omega) (ridx_none es1 _ hk) hG
    have PU := Lib.hid PUx
    clear hC hbC1 keepC PUx
    go_wp2_with fail
    refine AT2.out.mono ?_
    rintro e1 w4 ⟨rfl, rfl⟩
    go_wp2_with fail
    with_reducible refine PU.out.mono ?_
    rintro e1 w6 ⟨rfl, hmv⟩
    have HF := Lib.hid (RMv.then B1.out hmv)
    clear hmv PU
    go_wp2
    go_ret
    exact ⟨rfl, HF.out⟩
end
end
section
open Go.RowKit
open Go.Maps
section
variable {w : World} {rp : Nat} {t : St} {O : Nat → Prop}
theorem rwrite_any (h : Rd w rp t O) (s : ByteArray) (hsz : s.size ≤ maxLen) (ba : Option Addr) (bn bc : Nat) (b : List Nat) (hb : Sl w w.heap.size ba bn bc b) (hbn : bn ≤ 140737488351232) (hfar : 0 < bn → ∀ k o, ba = some ⟨k, o, none⟩ → ¬ O k) :
    Calls Tryz.prog 37 #[.pointer (some ⟨rp, 0, none⟩), .string s, .slice ba bn bc] w fun e w' => e = .returned (.int .i64 (t.write s.data.toList b).1) ∧ RMv w rp O (t.write s.data.toList b).2 w' := by
  obtain ⟨a, c, es, h⟩ := h
  by_cases hf : t.fuse = 0
  · exact rwrite_early h s hsz ba bn bc b hb hbn (.inl hf)
  cases hnm : nmOk s.data.toList with
  | false => exact rwrite_early h s hsz ba bn bc b hb hbn (.inr hnm)
  | true =>
    cases hfit : fitsB t.D t.room s.data.toList b.length with
    | false => exact rwrite_full h s hsz ba bn bc b hb hbn hf hnm hfit
    | true =>
      by_cases hi : ridx es s.data.toList < es.length
      · exact rwrite_old h s hsz ba bn bc b hb hbn hfar hf hnm hi hfit
      · exact rwrite_new h s hsz ba bn bc b hb hbn hfar hf hnm hi hfit
theorem rrename_any (h : Rd w rp t O) (s tn : ByteArray) (hsz : tn.size ≤ maxLen) :
    Calls Tryz.prog 32 #[.pointer (some ⟨rp, 0, none⟩), .string s, .string tn] w fun e w' => e = .returned (.int .i64 (t.rename s.data.toList tn.data.toList).1) ∧ RMv w rp O (t.rename s.data.toList tn.data.toList).2 w' := by
  obtain ⟨a, c, es, h⟩ := h
  by_cases hf : t.fuse = 0
  · exact rrename_early h s tn hsz (.inl hf)
  cases hnm : nmOk tn.data.toList with
  | false => exact rrename_early h s tn hsz (.inr (.inl hnm))
  | true =>
    by_cases hi : ridx es s.data.toList < es.length
    · exact rrename_at h s tn hsz hf hnm hi
    · exact rrename_early h s tn hsz (.inr (.inr hi))
end
end
end Go.Proofs.YtohiheohndmccaaGreat

/- The reference's disk: Rename that renames. -/
import Derived.Test.YtohiheohndmccaaRdN
namespace Go.Proofs.Ytohiheohndmccaa
open Go.RowKit
open Go.Maps
attribute [local go_sem] Oper.semAt_some

section
variable {w : World} {rp : Nat} {t : St} {O : Nat → Prop} {a : Option Addr} {c : Nat} {es : List REnt}
set_option linter.unusedSimpArgs false in
set_option maxRecDepth 100000 in
set_option maxHeartbeats 6400000 in
/-- Rename of a file that is there. -/
theorem rrename_at (h : RdC w rp t O a c es) (s tn : ByteArray) (hsz : tn.size ≤ maxLen) (hf : ¬ t.fuse = 0) (hnm1 : nmOk tn.data.toList = true) (hi : ridx es s.data.toList < es.length) :
    Calls Try.prog 27 #[.pointer (some ⟨rp, 0, none⟩), .string s, .string tn] w fun e w' => e = .returned (.int .i64 (t.rename s.data.toList tn.data.toList).1) ∧ RMv w rp O (t.rename s.data.toList tn.data.toList).2 w' := by
  have CD := Lib.hid (rcall_do h hf)
  have NM := Lib.hid (rname_any tn hsz)
  have hcap := h.len_
  rw [hnm1] at NM
  obtain ⟨e0, he0, hfat⟩ : ∃ e0, es[ridx es s.data.toList]? = some e0 ∧ fat t.D s.data.toList = some e0.fl := by
    obtain ⟨e0, g, h0, hf0, _⟩ := h.here hi
    exact ⟨e0, h0, hf0⟩
  obtain ⟨g, hg⟩ : ∃ g, a = some ⟨g, 0, none⟩ := by obtain ⟨g, hg, _⟩ := h.at_ (by omega); exact ⟨g, hg⟩
  subst hg
  have e : t.rename s.data.toList tn.data.toList = (0, { t.burnt with D := (t.D.del (.string s.data.toList)).put (.string tn.data.toList) (.held e0.fl) }) := by
    unfold St.rename; rw [if_neg hf, if_neg (by rw [hnm1]; decide), hfat]
  rw [e]
  have hG := good_rename h.good hfat hnm1
  clear h e
  obtain ⟨es1, hes1⟩ : ∃ es1, es1 = es.take (ridx es s.data.toList) ++ es.drop (ridx es s.data.toList + 1) := ⟨_, rfl⟩
  have hl1 : es1.length = es.length - 1 := by rw [hes1]; simp; omega
  go_enter Try.func27, Try.ntmps27
  go_wp2_with fail
  refine CD.out.mono ?_
  rintro e1 w1 ⟨rfl, h1, b1⟩
  have AT := rat_any h1 s
  unfold ratI at AT
  rw [if_pos hi] at AT
  have AT := Lib.hid AT
  have c1 := h1.cell.2.1
  obtain ⟨g', hg', _, _, hgl, _, _, hcs⟩ := h1.at_ (by omega)
  have hgg : g' = g := by injection hg' with hg'; injection hg' with hg'; exact hg'.symm
  subst hgg
  obtain ⟨q0, q1, q2⟩ := hcs _ e0 he0
  have B1 := Lib.hid b1
  have hrl1 := h1.lt rp h1.rpO
  have hA0 : Below w1.heap.size w1 (w1.alloc (.cells #[.string ⟨e0.s.toArray⟩, .slice e0.a e0.bs.length e0.c, .int .i64 (e0.l : Int)] 60)) := (Below.refl _ _).alloc (Nat.le_refl _) _
  have hAR := h1.below hA0
  have c1A := far_cellR c1 _ hA0
  have z1A := hAR.cell.2.2.2.2 1
  have zA : (w1.alloc (.cells #[.string ⟨e0.s.toArray⟩, .slice e0.a e0.bs.length e0.c, .int .i64 (e0.l : Int)] 60)).heap.size = w1.heap.size + 1 := by simp
  have hrA : rp < (w1.alloc (.cells #[.string ⟨e0.s.toArray⟩, .slice e0.a e0.bs.length e0.c, .int .i64 (e0.l : Int)] 60)).heap.size := by rw [zA]; omega
  have WT := Lib.hid (rwithout_any es _ es.length c (ridx es s.data.toList) _ hAR.rfs hi hcap)
  have EN := Lib.hid (fun (x : World) (O2 : Nat → Prop) (a2 : Option Addr) (c2 : Nat) (es2 : List REnt) (D2 : FS) => rn_end (x := x) (O2 := O2) (a2 := a2) (c2 := c2) (es2 := es2) (D2 := D2) h1 (List.mem_of_getElem? he0) tn)
  have DR := Lib.hid (fun (w2 : World) (v : Value) (hx : Below (w1.alloc (.cells #[.string ⟨e0.s.toArray⟩, .slice e0.a e0.bs.length e0.c, .int .i64 (e0.l : Int)] 60)).heap.size (w1.alloc (.cells #[.string ⟨e0.s.toArray⟩, .slice e0.a e0.bs.length e0.c, .int .i64 (e0.l : Int)] 60)) w2) (ho : OwnFl w2 (w1.alloc (.cells #[.string ⟨e0.s.toArray⟩, .slice e0.a e0.bs.length e0.c, .int .i64 (e0.l : Int)] 60)).heap.size v (es.take (ridx es s.data.toList) ++ es.drop (ridx es s.data.toList + 1))) => hAR.drop_ hx ho rfl hi)
  obtain ⟨n9, hn9⟩ : ∃ n9, n9 = es.length - 1 := ⟨_, rfl⟩
  rw [← hes1] at WT DR
  rw [← hn9] at DR hl1
  have hn63 : n9 ≤ 63 := by omega
  clear hn9
  have HA0 := Lib.hid (And.intro hA0 h1)
  clear h1 b1 CD hcs hAR hes1 hA0
  generalize ridx es s.data.toList = i at *
  go_wp2_with fail
  refine (NM.out _).mono ?_
  rintro e1 w2 ⟨rfl, rfl⟩
  go_wp2_with fail
  refine AT.out.mono ?_
  rintro e1 w2 ⟨rfl, rfl⟩
  go_wp2_with fail
  with_reducible refine (WT.out).mono ?_
  rintro e1 w3 ⟨v, rfl, ho, hb⟩
  obtain ⟨a9, c9, hv9, hC, hbC, keepC, hszC⟩ := DR.out w3 v hb ho
  subst hv9
  have x1 := (hb.cell (p := ⟨rp, 1, none⟩) hrA).trans c1A
  have y1 := (World.frozen?_of_block (w := (w1.alloc (.cells #[.string ⟨e0.s.toArray⟩, .slice e0.a e0.bs.length e0.c, .int .i64 (e0.l : Int)] 60))) (a := ⟨rp, 1, none⟩) (hb.block rp hrA)).trans z1A
  rw [zA] at hC keepC hszC
  have hbC1 : But O w1 (w3.setCell ⟨rp, 1, none⟩ (.slice a9 n9 c9)) := (But.of_below HA0.out.1).trans hbC (fun i hi => .inl hi)
  clear hbC
  have AT2 := rat_any hC tn
  unfold ratI at AT2
  have HC := Lib.hid (And.intro hC (And.intro hbC1 keepC))
  clear ho hb WT DR
  have cC := hC.cell.2.1
  have zC := hC.cell.2.2.2.2 1
  have hrC := hC.lt rp hC.rpO
  rw [hl1] at cC
  by_cases hk : ridx es1 tn.data.toList < es1.length
  · rw [if_pos hk] at AT2
    have AT2 := Lib.hid AT2
    have WT2 := Lib.hid (rwithout_any es1 a9 n9 c9 (ridx es1 tn.data.toList) _ (by have h9 := hC.rfs; rw [hl1] at h9; exact h9) (by omega) (by omega))
    have DR2 := Lib.hid (fun (w2 : World) (v : Value) (hx : Below (w3.setCell ⟨rp, 1, none⟩ (.slice a9 n9 c9)).heap.size (w3.setCell ⟨rp, 1, none⟩ (.slice a9 n9 c9)) w2) (ho : OwnFl w2 (w3.setCell ⟨rp, 1, none⟩ (.slice a9 n9 c9)).heap.size v (es1.take (ridx es1 tn.data.toList) ++ es1.drop (ridx es1 tn.data.toList + 1))) => hC.drop_ hx ho rfl hk)
    obtain ⟨es2, hes2⟩ : ∃ es2, es2 = es1.take (ridx es1 tn.data.toList) ++ es1.drop (ridx es1 tn.data.toList + 1) := ⟨_, rfl⟩
    have hl2 : es2.length = es1.length - 1 := by rw [hes2]; simp; omega
    obtain ⟨n8, hn8⟩ : ∃ n8, n8 = es1.length - 1 := ⟨_, rfl⟩
    rw [← hes2] at WT2 DR2
    rw [← hn8] at DR2 hl2
    have hn62 : n8 ≤ 63 := by omega
    clear hn8
    clear hC hbC1 keepC
    have hj : ridx es1 tn.data.toList < n9 := by omega
    clear hes2
    generalize ridx es1 tn.data.toList = j at *
    go_wp2_with fail
    refine AT2.out.mono ?_
    rintro e1 w4 ⟨rfl, rfl⟩
    go_wp2_with fail
    with_reducible refine (WT2.out).mono ?_
    rintro e1 w4 ⟨v, rfl, ho, hb⟩
    obtain ⟨a8, c8, hv8, hE, hbE, keepE, hszE⟩ := DR2.out w4 v hb ho
    subst hv8
    have x2 := (hb.cell (p := ⟨rp, 1, none⟩) hrC).trans cC
    have y2 := (World.frozen?_of_block (w := (w3.setCell ⟨rp, 1, none⟩ (.slice a9 n9 c9))) (a := ⟨rp, 1, none⟩) (hb.block rp hrC)).trans zC
    have hgone : ∀ e ∈ es2, e.s ≠ tn.data.toList := ridx_none es2 _ (ridx_gone es2 _ (by rw [← hE.D_]; exact fat_del_same _))
    obtain ⟨p0, pz, p1, p2, p3, PUx⟩ := EN.out _ _ _ _ _ _ hE (HC.out.2.1.trans hbE (fun i hi => hi.imp id (fun h => by omega))) (fun k hk => by
      rcases hk with (hk | hk) | hk
      · exact .inl hk
      · exact .inr hk.1
      · exact .inr (by omega)) (fun k hk => .inl (.inl hk)) (fun k hk hn => (keepE k (by omega) hn).trans (HC.out.2.2 k hk hn)) (by omega) hgone (by rw [← put_eq]; exact hG)
    rw [← put_eq] at PUx
    have PU := Lib.hid PUx
    clear PUx hE hbE keepE WT2 DR2 ho hb hgone
    go_wp2_with fail
    with_reducible refine PU.out.mono ?_
    rintro e1 w6 ⟨rfl, hmv⟩
    have HF := Lib.hid (RMv.then B1.out hmv)
    clear hmv PU
    go_wp2
    go_ret
    exact ⟨rfl, HF.out⟩
  · rw [if_neg hk] at AT2
    have AT2 := Lib.hid AT2
    obtain ⟨p0, pz, p1, p2, p3, PUx⟩ := EN.out _ _ _ _ _ _ hC hbC1 (fun k hk => hk.imp id (fun h => h.1)) (fun k hk => .inl hk) keepC (by omega) (ridx_none es1 _ hk) hG
    have PU := Lib.hid PUx
    clear hC hbC1 keepC PUx
    go_wp2_with fail
    refine AT2.out.mono ?_
    rintro e1 w4 ⟨rfl, rfl⟩
    go_wp2_with fail
    with_reducible refine PU.out.mono ?_
    rintro e1 w6 ⟨rfl, hmv⟩
    have HF := Lib.hid (RMv.then B1.out hmv)
    clear hmv PU
    go_wp2
    go_ret
    exact ⟨rfl, HF.out⟩
end
end Go.Proofs.Ytohiheohndmccaa

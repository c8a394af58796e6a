/- Contracts of the program's frame: length, Clone, Get. -/
import Derived.Test.YtiiellclnmakpaaDoorFrB
import Derived.Test.YtiiellclnmakpaaDoorClone
import Derived.Deep.RegionHeld3
import Derived.Deep.DrawnRows
import Derived.Deep.CutRange
import Derived.Deep.DeepCutAuto
import Derived.Lib.SliceRun
namespace Go.Proofs.YtiiellclnmakpaaDoor
open Go.RowKit
open Crc Frm

def lenOf (bs : List Nat) : Nat × Nat := if bs.length < 2 then (0, 13) else if 1800 < szOf bs then (0, 12) else if bs.length < szOf bs + 11 then (0, 13) else (szOf bs + 11, 0)

/-- The sizes of a literal. -/
theorem sizes_row {w : World} {t : TypeId} {g n : Nat} {l : Array Value} {fr : Nat × Nat} {ns : List Nat} (h : w.heap[g]? = some (.cells l t fr)) (hn : ns.length = n) (hl : l = (ns.map fun (k : Nat) => Value.int .i64 (k : Int)).toArray) (hm : n ≤ maxLen) :
    Row w w.heap.size (some ⟨g, 0, none⟩) n n 1 (fun j => .int .i64 ((ns.getD j 0 : Nat) : Int)) :=
  Row.new h (fun j hj => by
    rw [hl, List.getElem?_toArray, List.getElem?_map, List.getElem?_eq_getElem (by omega), List.getD_eq_getElem?_getD, List.getElem?_eq_getElem (by omega)]; rfl) hm

theorem numAt_first (bs : List Nat) (k : Nat) : numAt bs [k] 0 = val (bs.take k) := by simp [numAt, offs]

set_option maxHeartbeats 800000 in
theorem length_any (a : Option Addr) (len cap : Nat) (bs : List Nat) (w : World) (hs : Sl w w.heap.size a len cap bs) :
    Calls Tryd.prog 57 #[.slice a len cap] w fun e w' => e = .returned (.tuple #[.int .i64 (((lenOf bs).1 : Nat) : Int), .int .i64 (((lenOf bs).2 : Nat) : Int)]) ∧ Below w.heap.size w w' := by
  have hl := hs.length
  have hle := hs.le
  have hmx := hs.max
  unfold maxLen at hmx
  by_cases h2 : len < 2
  · have e : lenOf bs = (0, 13) := by unfold lenOf; rw [if_pos (by omega)]
    rw [e]
    have h2' : (len : Int) < 2 := by omega
    go_enter Tryd.func57, Tryd.ntmps57
    go_wp2
    go_ret2
    exact ⟨rfl, Below.refl _ _⟩
  · have h2' : (2 : Int) ≤ (len : Int) := by omega
    have hv : szOf bs < 65536 := by
      have h1 := val_lt (bs.take 2) (fun c hc => hs.byte c (List.mem_of_mem_take hc))
      have h2 : (bs.take 2).length = 2 := by rw [List.length_take]; omega
      rw [h2] at h1
      exact h1
    have e : lenOf bs = if 1800 < szOf bs then (0, 12) else if len < szOf bs + 11 then (0, 13) else (szOf bs + 11, 0) := by unfold lenOf; rw [if_neg (by omega), hl]
    rcases hpq : lenOf bs with ⟨p, q⟩
    rw [hpq] at e
    clear hpq
    have He := Lib.hid e
    have Hn : Hid (numAt bs [2] 0 = szOf bs) := numAt_first bs 2
    clear e
    generalize szOf bs = n at hv Hn He
    go_enter Tryd.func57, Tryd.ntmps57
    go_wp2_with fail
    refine (read_any a len cap bs _ 1 1 [2] _ ((hs.below ((Below.refl _ _).alloc (Nat.le_refl _) _) (Nat.le_refl _)).more (by simp)) rfl (sizes_row (heap_alloc_new _ _) rfl rfl (by decide)) (by simp) (by simp; omega) (by decide)).mono ?_
    rintro e w1 ⟨g, rfl, hg, hc, hb1, hgl⟩
    have c0 := hc 0 (by decide)
    rw [Hn.out] at c0
    have hB : Below w.heap.size w w1 := ((Below.refl _ _).alloc (Nat.le_refl _) _).trans (hb1.mono (by simp))
    clear hc hb1
    by_cases h3 : 1800 < n
    · go_wp2
      go_ret2
      have h := He.out
      rw [if_pos h3] at h
      cases h
      exact ⟨rfl, hB⟩
    · by_cases h4 : len < n + 11
      · have h4' : (len : Int) < (n : Int) + 11 := by omega
        go_wp2
        go_ret2
        have h := He.out
        rw [if_neg h3, if_pos h4] at h
        cases h
        exact ⟨rfl, hB⟩
      · have h4' : (n : Int) + 11 ≤ (len : Int) := by omega
        go_wp2
        go_ret2
        have h := He.out
        rw [if_neg h3, if_neg h4] at h
        cases h
        exact ⟨ret_tup2 (by go_num) rfl, hB⟩
theorem results_row_tmp2 {P : Program} {fn : Func} {p u v : Tmp} {ty : TypeId} (h : fn.results = #[.cell p ty, .tmp u, .tmp v]) (tmps : Array Value) (w : World) (g : Nat) (t : TypeId) (cs : Array Value) (fr : Nat × Nat) (d : TypeDesc)
    (hp : tmps.getD p undef = .pointer (some ⟨g, 0, none⟩)) (hg : w.heap[g]? = some (.cells cs t fr))
    (hu : P.underlying ty = some d) (hd : (match d with | .struct _ | .array _ _ => true | _ => false) = true) (hi : (P.info? ty).map (·.size) = some cs.size) :
    (results fn tmps).run P w = .ok (.tuple #[.agg cs, tmps.getD u undef, tmps.getD v undef]) w := by
  have hp' : tmps[p]?.getD undef = .pointer (some ⟨g, 0, none⟩) := by simpa using hp
  simp [results, h, hp', asAddr, run_loadVar_row w g t ty cs fr d hg hu hd hi]

/-- The same contract, for the midst of a function. -/
theorem read_from {B : Nat} {w0 : World} {a : Option Addr} {len cap : Nat} {bs : List Nat} (hB : B ≤ w0.heap.size) (hs : Sl w0 B a len cap bs) (n : Nat) (ns : List Nat) (hn : ns.length = n) (h4 : ∀ x ∈ ns, x ≤ 4) (hfit : ns.sum ≤ len) (hn9 : n ≤ 9)
    (g0 : Nat) (w : World) (hb : Below B w0 w) (hr : Row w w.heap.size (some ⟨g0, 0, none⟩) n n 1 (fun j => .int .i64 ((ns.getD j 0 : Nat) : Int))) :
    Calls Tryd.prog 58 #[.slice a len cap, .slice (some ⟨g0, 0, none⟩) n n] w fun e w' => ∃ g, e = .returned (.slice (some ⟨g, 0, none⟩) n n) ∧ w.heap.size ≤ g ∧
      (∀ j, j < n → w'.cell? ⟨g, j, none⟩ = some (.int .i64 ((numAt bs ns j : Nat) : Int))) ∧ Below B w0 w' ∧ g < w'.heap.size :=
  (read_any a len cap bs (some ⟨g0, 0, none⟩) n n ns w ((hs.below hb (Nat.le_refl _)).more (Nat.le_trans hB hb.size)) hn hr h4 hfit hn9).mono fun _ _ ⟨g, he, h1, h2, h3, h5⟩ => ⟨g, he, h1, h2, hb.trans (h3.mono (Nat.le_trans hB hb.size)), h5⟩

theorem cell_far3 {w : World} {q : Addr} {b : Nat} {u v0 v1 v2 : Value} (h : w.cell? q = some u) (hne : q.block ≠ b) : (((w.setCell ⟨b, 0, none⟩ v0).setCell ⟨b, 1, none⟩ v1).setCell ⟨b, 2, none⟩ v2).cell? q = some u :=
  cell_set_far (p := ⟨b, 2, none⟩) (cell_set_far (p := ⟨b, 1, none⟩) (cell_set_far (p := ⟨b, 0, none⟩) h hne) hne) hne
theorem zero_cells : (#[Value.int .i64 0, .int .i64 0, .slice none 0 0].all fun x => x.oneCell') = true := by kernel_rfl
theorem get_of_len (bs : List Nat) (h : (lenOf bs).2 ≠ 0) : get bs = (Fr.zero, 0, (lenOf bs).2) := by
  unfold lenOf at *
  unfold Frm.get
  split at h
  · rename_i h1; rw [if_pos h1, if_pos h1]
  split at h
  · rename_i h1 h2; rw [if_neg h1, if_pos h2, if_neg h1, if_pos h2]
  split at h
  · rename_i h1 h2 h3; rw [if_neg h1, if_neg h2, if_pos h3, if_neg h1, if_neg h2, if_pos h3]
  · exact absurd rfl h
theorem len_ok (bs : List Nat) (h : (lenOf bs).2 = 0) : lenOf bs = (szOf bs + 11, 0) ∧ szOf bs + 11 ≤ bs.length ∧ szOf bs ≤ 1800 ∧
    get bs = if val ((bs.take (szOf bs + 11)).drop (szOf bs + 7)) ≠ more 0 (bs.take (szOf bs + 7)) then (Fr.zero, 0, 14) else if ¬ (frOf bs).right then (Fr.zero, 0, 12) else (frOf bs, szOf bs + 11, 0) := by
  unfold lenOf at *
  unfold Frm.get
  split at h
  · cases h
  split at h
  · cases h
  split at h
  · cases h
  · rename_i h1 h2 h3
    refine ⟨?_, by omega, by omega, ?_⟩
    · rw [if_neg h1, if_neg h2, if_neg h3]
    · rw [if_neg h1, if_neg h2, if_neg h3]

theorem numAt_two (bs : List Nat) (h : 7 ≤ bs.length) : numAt bs [2, 1, 4] 1 = bs.getD 2 0 := by
  match bs, h with
  | a :: b :: c :: d :: e :: f :: g :: t, _ => simp [numAt, offs, val]
theorem numAt_three (bs : List Nat) : numAt bs [2, 1, 4] 2 = val ((bs.take 7).drop 3) := by simp [numAt, offs]

set_option maxHeartbeats 800000 in
theorem get_any (a : Option Addr) (len cap : Nat) (bs : List Nat) (w : World) (hs : Sl w w.heap.size a len cap bs) :
    Calls Tryd.prog 38 #[.slice a len cap] w fun e w' => ∃ ba bc, e = .returned (.tuple #[.agg #[.int .i64 (get bs).1.ty, .int .i64 (get bs).1.seq, .slice ba (get bs).1.body.length bc], .int .i64 (((get bs).2.1 : Nat) : Int), .int .i64 (((get bs).2.2 : Nat) : Int)]) ∧
      Sl w' w'.heap.size ba (get bs).1.body.length bc (get bs).1.body ∧ Below w.heap.size w w' ∧ (∀ b o, ba = some ⟨b, o, none⟩ → w.heap.size ≤ b) := by
  have LA := Lib.hid (length_any a len cap bs)
  by_cases hok : (lenOf bs).2 = 0
  · obtain ⟨hl, hlen, h18, hget⟩ := len_ok bs hok
    rw [hl] at LA
    have hbl := hs.length
    rw [hbl] at hlen
    have hle := hs.le
    have hmx := hs.max
    unfold maxLen at hmx
    have Hv : Hid (numAt ((bs.take (szOf bs + 11)).drop (szOf bs + 7)) [4] 0 = val ((bs.take (szOf bs + 11)).drop (szOf bs + 7))) := by
      show _ = _
      rw [numAt_first, List.take_of_length_le (by rw [List.length_drop, List.length_take]; omega)]
    have Hg := Lib.hid hget
    clear hget hok hl
    have s1 := hs.take (k := szOf bs + 7) (by omega)
    have s2 := hs.mid (j := szOf bs + 7) (k := szOf bs + 11) (by omega) (by omega)
    have c1 := run_cut_to (P := Tryd.prog) 22 5 Tryd.underlying22 info_u8 a len cap (szOf bs + 7) (by omega)
    have c2 : ∀ w, (Instr.slice 22 (.slice a len cap) (some (.int .i64 ((szOf bs + 7 : Nat) : Int))) (some (.int .i64 ((szOf bs + 11 : Nat) : Int))) none).run Tryd.prog w = .ok (.slice (fromA a cap (szOf bs + 7)) (szOf bs + 11 - (szOf bs + 7)) (cap - (szOf bs + 7))) w :=
      run_cut_mid (P := Tryd.prog) 22 5 Tryd.underlying22 info_u8 a len cap (szOf bs + 7) (szOf bs + 11) (by omega) (by omega)
    rw [show ((szOf bs + 7 : Nat) : Int) = ((szOf bs + 11 : Nat) : Int) - 4 from by omega] at c1 c2
    have hq : szOf bs + 11 - (szOf bs + 7) = 4 := by omega
    rw [hq] at s2 c2
    obtain ⟨L, hL⟩ : ∃ L, L = szOf bs + 11 := ⟨_, rfl⟩
    rw [← hL] at c1 c2 LA hlen
    have h11 : 11 ≤ L := by omega
    have hL9 : L ≤ 1811 := by omega
    obtain ⟨q, hq7⟩ : ∃ q, q = szOf bs + 7 := ⟨_, rfl⟩
    rw [← hq7] at c1 c2 s1 s2 Hg Hv
    rw [← hL] at s2 Hg Hv
    generalize fromA a cap q = a2 at c2 s2
    generalize cap - q = k2 at c2 s2
    have Hq := Lib.hid (And.intro hL hq7)
    clear hL hq7 hq
    go_enter Tryd.func38, Tryd.ntmps38
    go_wp2_with fail
    refine (LA.out _ ((hs.below ((Below.refl _ _).alloc (Nat.le_refl _) _) (Nat.le_refl _)).more (by simp))).mono ?_
    rintro e w1 ⟨rfl, hb1⟩
    have hr1 := (hb1.block w.heap.size (by simp)).trans (heap_alloc_new _ _)
    have hB1 : Below w.heap.size w w1 := ((Below.refl _ _).alloc (Nat.le_refl _) _).trans (hb1.mono (by simp))
    clear hb1
    have hS := Below.refl w1.heap.size w1
    have hwr : IntKind.i64.wrap ((L : Int) - 4) = (L : Int) - 4 := by rw [IntKind.wrap_i64]; omega
    go_wp2
    go_region_held3 (fun w' => Below w1.heap.size w1 w') (first | assumption | exact Below.drew (by assumption)) (fail)
    have RD := Lib.hid (read_from (a := a2) (Nat.le_refl _) ((s2.below hB1 (Nat.le_refl _)).more (B' := w1.heap.size) hB1.size) 1 [4] rfl (by simp) (by simp) (by decide))
    have S1 := Lib.hid s1
    have HB := Lib.hid (And.intro hB1 hr1)
    clear hB1 hr1 s1 s2 hs hS
    go_wp2_with fail
    have hw32 : IntKind.i64.wrap ((more 0 (bs.take q) : Nat) : Int) = ((more 0 (bs.take q) : Nat) : Int) := by have := more_lt 0 (bs.take q); rw [IntKind.wrap_i64]; omega
    go_cut [37] from 11 (fun t wx => t = .bool (((val ((bs.take L).drop q) : Nat) : Int) != ((more 0 (bs.take q) : Nat) : Int)) ∧ Below w1.heap.size w1 wx)
    case first =>
      go_region_with (first
        | (go_at_call 58; refine (RD.out w1.heap.size _ (Below.drew (Below.drew ((Below.refl _ _).alloc (Nat.le_refl _) _))) (sizes_row (heap_alloc_new _ _) rfl rfl (by decide))).mono ?_; rintro e w2 ⟨g, rfl, hg, hc, hb2, hgl⟩; have c0 := hc 0 (by decide); rw [Hv.out] at c0; clear hc)
        | (go_at_call 29; refine (of_any a q cap _ _ ((S1.out.below (HB.out.1.trans (hb2.mono HB.out.1.size)) (Nat.le_refl _)).more (HB.out.1.trans (hb2.mono HB.out.1.size)).size)).mono ?_; rintro e w3 ⟨rfl, hb3⟩; have c0 := (hb3.cell hgl).trans c0))
      all_goals
        go_wp2_with fail
        go_meet
        case rel => exact ⟨by first | rfl | rw [hw32], hb2.trans (hb3.mono hb2.size)⟩
    case rest =>
      obtain ⟨rfl, hB3⟩ := hcut
      obtain ⟨hB1, hr1⟩ := HB.out
      have hBc : Below w.heap.size w wc := hB1.trans (hB3.mono hB1.size)
      have hwl := lt_of_heap hr1
      have hrc := (hB3.block w.heap.size hwl).trans hr1
      have Hrc := Lib.hid (And.intro hrc hBc)
      clear hB1 hr1 hrc hB3 HB RD hBc hw32
      by_cases hne : val ((bs.take L).drop q) = more 0 (bs.take q)
      · rw [if_neg (by simpa using hne)] at Hg
        rw [hne]
        clear hne
        have hq7 : 7 ≤ q := by have := Hq.out; omega
        have hq9 : q ≤ 1807 := by have := Hq.out; omega
        go_wp2_with fail
        refine (read_any a q cap (bs.take q) _ 3 3 [2, 1, 4] _ (((S1.out.below Hrc.out.2 (Nat.le_refl _)).more Hrc.out.2.size).below ((Below.refl _ _).alloc (Nat.le_refl _) _) (Nat.le_refl _) |>.more (by simp)) rfl (sizes_row (heap_alloc_new _ _) rfl rfl (by decide)) (by simp) (by simp; omega) (by decide)).mono ?_
        rintro e w2 ⟨g, rfl, hg, hc, hb2, hgl⟩
        have b1 := hc 1 (by decide)
        have b2 := hc 2 (by decide)
        rw [numAt_two _ (by rw [List.length_take]; omega), List.getD_eq_getElem?_getD, List.getElem?_take_of_lt (by omega), ← List.getD_eq_getElem?_getD] at b1
        rw [numAt_three, List.take_take, Nat.min_eq_left hq7] at b2
        have hB2 : Below w.heap.size w w2 := (Hrc.out.2.alloc Hrc.out.2.size _).trans (hb2.mono (by have := Hrc.out.2.size; simp; omega))
        have hr2 := (hb2.block w.heap.size (by have := Hrc.out.2.size; have := lt_of_heap Hrc.out.1; simp; omega)).trans ((heap_alloc_old _ _ (lt_of_heap Hrc.out.1)).trans Hrc.out.1)
        obtain ⟨ty, hty⟩ : ∃ ty, ty = bs.getD 2 0 := ⟨_, rfl⟩
        obtain ⟨sq, hsq⟩ : ∃ sq, sq = val ((bs.take 7).drop 3) := ⟨_, rfl⟩
        rw [← hty] at b1
        rw [← hsq] at b2
        have Ht := Lib.hid (And.intro hty hsq)
        clear hty hsq
        have Hr2 := Lib.hid (And.intro hr2 hB2)
        have hgn : g ≠ w2.heap.size := by omega
        have s3 := ((S1.out.below hB2 (Nat.le_refl _)).more hB2.size).from_ hq7
        have c3 : ∀ w, (Instr.slice 22 (.slice a q cap) (some (.int .i64 (7 : Int))) none none).run Tryd.prog w = .ok (.slice (fromA a cap 7) (q - 7) (cap - 7)) w :=
          run_cut_from (P := Tryd.prog) 22 5 Tryd.underlying22 info_u8 a q cap 7 (by omega)
        generalize fromA a cap 7 = a3 at s3 c3
        generalize hn3 : q - 7 = n3 at s3 c3
        have Hn3 := Lib.hid hn3
        generalize cap - 7 = k3 at s3 c3
        have CL := Lib.hid (fun (w' : World) (hb : Below w2.heap.size w2 w') => clone_any a3 n3 k3 _ w' ((s3.below hb (Nat.le_refl _)).more hb.size) (by omega))
        clear hB2 hr2 hb2 hc s3 hn3
        go_wp2_with fail
        go_cut [10] from 11 (fun p wx => ∃ g2 ba bc, p = .pointer (some ⟨g2, 0, none⟩) ∧ wx.heap[g2]? = some (.cells #[.int .i64 (ty : Int), .int .i64 (sq : Int), .slice ba n3 bc] 36 (0, 0)) ∧ Sl wx wx.heap.size ba n3 bc ((bs.take q).drop 7) ∧ Below w2.heap.size w2 wx ∧ w2.heap.size ≤ g2 ∧ ∀ b o, ba = some ⟨b, o, none⟩ → w2.heap.size ≤ b)
        case first =>
          go_region_held3 (fun w' => w'.cell? ⟨g, 1, none⟩ = some (.int .i64 (ty : Int)) ∧ w'.cell? ⟨g, 2, none⟩ = some (.int .i64 (sq : Int)))
            (first | exact ⟨d1, d2⟩ | exact ⟨d1a _, d2a _⟩ | exact ⟨b1, b2⟩ | exact ⟨cell_far3 d1 hgn, cell_far3 d2 hgn⟩ | exact ⟨(World.cell?_alloc_past _ _ _ hgl).trans b1, (World.cell?_alloc_past _ _ _ hgl).trans b2⟩) (first
            | (go_at_call 59; refine (CL.out w2.drew (Below.drew (Below.refl _ _))).mono ?_; rintro e w4 ⟨ba, bc, rfl, hsc, hb4, hbb⟩; have d1 := (hb4.cell (p := ⟨g, 1, none⟩) hgl).trans b1; have d2 := (hb4.cell (p := ⟨g, 2, none⟩) hgl).trans b2; have hg4 : g < w4.heap.size := Nat.lt_of_lt_of_le hgl hb4.size; have d1a : ∀ o, (w4.alloc o).cell? ⟨g, 1, none⟩ = _ := fun o => (World.cell?_alloc_past _ _ _ hg4).trans d1; have d2a : ∀ o, (w4.alloc o).cell? ⟨g, 2, none⟩ = _ := fun o => (World.cell?_alloc_past _ _ _ hg4).trans d2)
            | (go_at_call 59; refine (CL.out _ (Below.drew ((Below.refl _ _).alloc (Nat.le_refl _) _))).mono ?_; rintro e w4 ⟨ba, bc, rfl, hsc, hb4, hbb⟩; have hblk := (hb4.block w2.heap.size (by simp)).trans (heap_alloc_new w2 _); have x0 := (cell_of_row w4 w2.heap.size 0 _ _ _ hblk).trans rfl; have x1 := (cell_of_row w4 w2.heap.size 1 _ _ _ hblk).trans rfl; have x2 := (cell_of_row w4 w2.heap.size 2 _ _ _ hblk).trans rfl; have y0 := frozen_of_row w4 w2.heap.size 0 _ _ hblk; have y1 := frozen_of_row w4 w2.heap.size 1 _ _ hblk; have y2 := frozen_of_row w4 w2.heap.size 2 _ _ hblk; have d1 := (hb4.cell (p := ⟨g, 1, none⟩) (by simp; omega)).trans ((World.cell?_alloc_past _ _ _ hgl).trans b1); have d2 := (hb4.cell (p := ⟨g, 2, none⟩) (by simp; omega)).trans ((World.cell?_alloc_past _ _ _ hgl).trans b2)))
          · go_wp2_with fail
            go_meet
            case rel => exact ⟨w4.heap.size, ba, bc, rfl, heap_alloc_new _ _, (hsc.below ((Below.refl _ _).alloc (Nat.le_refl _) _) (Nat.le_refl _)).more (by simp), (Below.drew (Below.refl _ _)).trans hb4 |>.alloc hb4.size _, hb4.size, hbb⟩
          · go_wp2_with fail
            go_meet
            case rel =>
              have hbn : 0 < n3 → ∀ b o, ba = some ⟨b, o, none⟩ → b ≠ w2.heap.size := fun _ b o h => by have := hbb b o h; simp at this; omega
              refine ⟨w2.heap.size, ba, bc, rfl, ?_, ?_, ?_, Nat.le_refl _, fun b o h => by have := hbb b o h; simp at this; omega⟩
              · exact heap_setCells_whole (cs := [Value.int .i64 0, .int .i64 0, .slice none 0 0]) [Value.int .i64 (ty : Int), .int .i64 (sq : Int), .slice ba n3 bc] rfl hblk
              · exact (((hsc.far ⟨w2.heap.size, 0, none⟩ _ hbn).far ⟨w2.heap.size, 1, none⟩ _ hbn).far ⟨w2.heap.size, 2, none⟩ _ hbn).more (by simp)
              · exact ((((((Below.refl _ _).alloc (Nat.le_refl _) _).drew).trans (hb4.mono (by simp))).setCell (p := ⟨w2.heap.size, 0, none⟩) (Nat.le_refl _) _).setCell (p := ⟨w2.heap.size, 1, none⟩) (Nat.le_refl _) _).setCell (p := ⟨w2.heap.size, 2, none⟩) (Nat.le_refl _) _
        case rest =>
          obtain ⟨g2, ba, bc, rfl, hg2, hsc, hB4, hge, hbb⟩ := hcut
          obtain ⟨hr2, hB2⟩ := Hr2.out
          have hr4 := (hB4.block w.heap.size (lt_of_heap hr2)).trans hr2
          have hBw := hB2.trans (hB4.mono hB2.size)
          have Hr4 := Lib.hid (And.intro hr4 hBw)
          have Hs := Lib.hid (And.intro hsc hg2)
          have k0 := (cell_of_row wc g2 0 _ _ _ hg2).trans rfl
          have k1 := (cell_of_row wc g2 1 _ _ _ hg2).trans rfl
          have k2 := (cell_of_row wc g2 2 _ _ _ hg2).trans rfl
          have hf1 : (frOf bs).ty = (ty : Int) := by rw [Ht.out.1]; rfl
          have hf2 : (frOf bs).seq = (sq : Int) := by rw [Ht.out.2]; rfl
          have hfb : (frOf bs).body = (bs.take q).drop 7 := by rw [Hq.out.2]; rfl
          have hf3 : (frOf bs).body.length = n3 := by rw [hfb, hsc.length]
          have hgl2 := lt_of_heap hg2
          have hneq : g2 ≠ w.heap.size := by
            have := lt_of_heap hr2
            omega
          have Hbn : Hid (0 < n3 → ∀ b o, ba = some ⟨b, o, none⟩ → b ≠ w.heap.size) := fun _ b o h => by
            have := hbb b o h
            have := lt_of_heap hr2
            omega
          have Hbb : Hid (∀ b o, ba = some ⟨b, o, none⟩ → w.heap.size ≤ b) := fun b o h => by
            have := hbb b o h
            have := lt_of_heap hr2
            omega
          clear hbb
          have hrg := Lib.hid (right_of (frOf bs) (ty : Int) (sq : Int) n3 hf1 hf2 hf3 ba bc)
          have Hf := Lib.hid (And.intro hf1 (And.intro hf2 (And.intro hf3 hfb)))
          clear hr2 hB2 hr4 hBw hB4 hsc Hr2 CL b1 b2 hf1 hf2 hf3 hfb hg2
          go_wp2_with fail
          refine (hrg.out _).mono ?_
          rintro e w5 ⟨rfl, hb5⟩
          have hg5 := (hb5.block g2 hgl2).trans Hs.out.2
          have hr5 := (hb5.block w.heap.size (lt_of_heap Hr4.out.1)).trans Hr4.out.1
          have hB5 := Hr4.out.2.trans (hb5.mono Hr4.out.2.size)
          have hs5 := (Hs.out.1.below hb5 (Nat.le_refl _)).more hb5.size
          have H5 := Lib.hid (And.intro hr5 (And.intro hB5 hs5))
          clear hr5 hB5 hs5 k0 k1 k2 Hr4 Hs hb5
          by_cases hr : (frOf bs).right
          · rw [decide_eq_true hr]
            have k0 := (cell_of_row w5 g2 0 _ _ _ hg5).trans rfl
            have k1 := (cell_of_row w5 g2 1 _ _ _ hg5).trans rfl
            have k2 := (cell_of_row w5 g2 2 _ _ _ hg5).trans rfl
            have hone : (#[Value.int .i64 (ty : Int), .int .i64 (sq : Int), .slice ba n3 bc].all fun x => x.oneCell') = true := by kernel_rfl
            have hg := Hg.out
            rw [if_neg (by simpa using hr)] at hg
            have Hg' := Lib.hid hg
            have Hone := Lib.hid hone
            clear hg hone hg5 Hg
            go_wp2_with (first
              | (refine wpList_store_mid (by rfl) 36 (.tmp 2) (.tmp 56) (by rfl) w.heap.size 0 #[.int .i64 (ty : Int), .int .i64 (sq : Int), .slice ba n3 bc] (by rfl) (by rfl) (there_of_block H5.out.1 (by simp)) (by kernel_rfl) Hone.out ?_))
            have hw := heap_setCells_whole (cs := [Value.int .i64 0, .int .i64 0, .slice none 0 0]) [Value.int .i64 (ty : Int), .int .i64 (sq : Int), .slice ba n3 bc] rfl H5.out.1
            refine bodyPost_ret (results_row_tmp2 rfl _ _ w.heap.size _ _ _ _ rfl hw Tryd.underlying36 (by rfl) (by kernel_rfl)) (by rfl) ?_
            rw [Hg'.out]
            simp only []
            rw [Hf.out.1, Hf.out.2.1, Hf.out.2.2.1, Hf.out.2.2.2]
            exact ⟨ba, bc, ret_tup3 rfl (by show Value.int .i64 (L : Int) = _; rw [Hq.out.1]) rfl, (Sl.farCells _ Hbn.out _ _ H5.out.2.2).more (by rw [size_setCells]; exact Nat.le_refl _), below_setCells' _ (Nat.le_refl _) _ _ H5.out.2.1, Hbb.out⟩
          · rw [decide_eq_false hr]
            have hg := Hg.out
            rw [if_pos (by simpa using hr)] at hg
            have Hg' := Lib.hid hg
            clear hg hg5 Hg
            go_wp2_with (first
              | (refine wpList_store_mid (by rfl) 36 (.tmp 2) (.tmp 55) (by rfl) w.heap.size 0 #[.int .i64 0, .int .i64 0, .slice none 0 0] (by rfl) (by rfl) (there_of_block H5.out.1 (by simp)) (by kernel_rfl) zero_cells ?_))
            have hw := heap_setCells_whole (cs := [Value.int .i64 0, .int .i64 0, .slice none 0 0]) [Value.int .i64 0, .int .i64 0, .slice none 0 0] rfl H5.out.1
            refine bodyPost_ret (results_row_tmp2 rfl _ _ w.heap.size _ _ _ _ rfl hw Tryd.underlying36 (by rfl) (by kernel_rfl)) (by rfl) ?_
            rw [Hg'.out]
            exact ⟨none, 0, rfl, Sl.nil_, below_setCells' _ (Nat.le_refl _) _ _ H5.out.2.1, fun b o h => by cases h⟩
      · have hne' : ((((val ((bs.take L).drop q) : Nat) : Int) != ((more 0 (bs.take q) : Nat) : Int))) = true := by simp; omega
        have hg := Hg.out
        rw [if_pos hne] at hg
        have Hg' := Lib.hid hg
        clear hg
        go_wp2_with (first
          | (refine wpList_store_mid (by rfl) 36 (.tmp 2) (.tmp 38) (by rfl) w.heap.size 0 #[.int .i64 0, .int .i64 0, .slice none 0 0] (by rfl) (by rfl) (there_of_block Hrc.out.1 (by simp)) (by kernel_rfl) zero_cells ?_))
        have hw := heap_setCells_whole (cs := [Value.int .i64 0, .int .i64 0, .slice none 0 0]) [Value.int .i64 0, .int .i64 0, .slice none 0 0] rfl Hrc.out.1
        refine bodyPost_ret (results_row_tmp2 rfl _ _ w.heap.size _ _ _ _ rfl hw Tryd.underlying36 (by rfl) (by kernel_rfl)) (by rfl) ?_
        rw [Hg'.out]
        exact ⟨none, 0, rfl, Sl.nil_, below_setCells' _ (Nat.le_refl _) _ _ Hrc.out.2, fun b o h => by cases h⟩
  · have hg := get_of_len bs hok
    rw [hg]
    generalize (lenOf bs).1 = z1 at LA
    generalize (lenOf bs).2 = z2 at LA hok
    have hne : (((z2 : Nat) : Int) != 0) = true := by simp; omega
    go_enter Tryd.func38, Tryd.ntmps38
    go_wp2_with fail
    refine (LA.out _ ((hs.below ((Below.refl _ _).alloc (Nat.le_refl _) _) (Nat.le_refl _)).more (by simp))).mono ?_
    rintro e w1 ⟨rfl, hb1⟩
    have hr1 := (hb1.block w.heap.size (by simp)).trans (heap_alloc_new _ _)
    have hB1 : Below w.heap.size w w1 := ((Below.refl _ _).alloc (Nat.le_refl _) _).trans (hb1.mono (by simp))
    clear hb1
    have Hr := Lib.hid hr1
    clear hr1
    go_wp2_with (first
      | (refine wpList_store_mid (by rfl) 36 (.tmp 2) (.tmp 18) (by rfl) w.heap.size 0 #[.int .i64 0, .int .i64 0, .slice none 0 0] (by rfl) (by rfl) (there_of_block Hr.out (by simp)) (by kernel_rfl) zero_cells ?_))
    have hw := heap_setCells_whole (cs := [Value.int .i64 0, .int .i64 0, .slice none 0 0]) [Value.int .i64 0, .int .i64 0, .slice none 0 0] rfl Hr.out
    refine bodyPost_ret (results_row_tmp2 rfl _ _ w.heap.size _ _ _ _ rfl hw Tryd.underlying36 (by rfl) (by kernel_rfl)) (by rfl) ?_
    exact ⟨none, 0, rfl, Sl.nil_, below_setCells' _ (Nat.le_refl _) _ _ hB1, fun b o h => by cases h⟩
end Go.Proofs.YtiiellclnmakpaaDoor

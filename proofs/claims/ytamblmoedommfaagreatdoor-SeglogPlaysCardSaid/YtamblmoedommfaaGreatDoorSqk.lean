/- Contracts of the program's frame: Put. The program's log: Append. The program's log: Append, the whole. Arguments that came in, opened: operations of a log. The statements' operations of a log: a call; are they too mu. Rows of frames that lie from a block on; what a log's calls . Both logs side by side; Open of both, over any disk. The log's head: its states, as mathematics. The log's statements' live question. -/
import Derived.Test.YtamblmoedommfaaGreatDoorSqa
import Derived.Test.YtamblmoedommfaaGreatDoorSqb
import Derived.Test.YtamblmoedommfaaGreatDoorSqd
import Derived.Test.YtamblmoedommfaaGreatDoorSqe
import Derived.Test.YtamblmoedommfaaGreatDoorSqg
import Derived.Test.YtamblmoedommfaaGreatDoorSqh
import Derived.Test.YtamblmoedommfaaGreatDoorSqj
import Derived.Lib.SlBytesConst
namespace Go.Proofs.YtamblmoedommfaaGreatDoor
set_option maxRecDepth 100000
set_option maxHeartbeats 40000000
set_option linter.unusedVariables false
set_option linter.unusedSimpArgs false
set_option linter.unusedSectionVars false
section
open Go.RowKit
open Crc Frm
theorem nums_row {w : World} {t : TypeId} {g n : Nat} {l : Array Value} {fr : Nat × Nat} {ms : List (Nat × Nat)} (h : w.heap[g]? = some (.cells l t fr)) (hl : ∀ j, j < n * 2 → l[j]? = some (numCell ms j)) (hm : n ≤ maxLen) :
 Row w w.heap.size (some ⟨g, 0, none⟩) n n 2 (numCell ms) := Row.new h hl hm
theorem put_any (f : Fr) (a : Option Addr) (cap : Nat) (w : World) (hs : Sl w w.heap.size a f.body.length cap f.body) :
 Calls Tryz.prog 68 #[.agg #[.int .i64 f.ty, .int .i64 f.seq, .slice a f.body.length cap]] w fun e w' => ∃ v, e = .returned v ∧ OwnB w' w.heap.size 5 v (put f) ∧ Below w.heap.size w w' := by
 have hB0 : ∀ o, Below w.heap.size w (w.alloc o) := fun o => Qb.alloc Qn o
 by_cases hr : f.right
 · have hp : put f = raw f := by unfold put; rw [if_pos hr]
   rw [hp]
   obtain ⟨h1, h2, h3, h4, h5⟩ := id hr
   obtain ⟨t, ht⟩ := Int.eq_ofNat_of_zero_le (show 0 ≤ f.ty by omega)
   obtain ⟨s, hsq⟩ := Int.eq_ofNat_of_zero_le h3
   have R := Qh (right_of f t s f.body.length ht hsq rfl a cap)
   rw [decide_eq_true hr] at R
   rw [ht, hsq]
   have Hraw : Hid (raw f = wrOf [(2, f.body.length), (1, t), (4, s)] ++ f.body ++ wrOf [(4, more 0 (wrOf [(2, f.body.length), (1, t), (4, s)] ++ f.body))]) := by
    have e1 : f.ty.toNat = t := by rw [ht]; rfl
    have e2 : f.seq.toNat = s := by rw [hsq]; rfl
    show _ = _
    simp [raw, sm, hd, wrOf, e1, e2]
   have ht16 : t ≤ 15 := by omega
   have hs30 : s ≤ 1073741824 := by omega
   clear h1 h2 h3 h4 ht hsq hp
   obtain ⟨body, hbody⟩ : ∃ b, b = f.body := ⟨_, rfl⟩
   rw [← hbody] at hs Hraw R h5 ⊢
   obtain ⟨len, hlen⟩ : ∃ l, l = body.length := ⟨_, rfl⟩
   rw [← hlen] at hs Hraw R h5 ⊢
   have Hlen := Qh hlen
   clear hbody hlen
   obtain ⟨i8, hi8, hz0, hz1, hz2⟩ := info_parts info_u8
   go_enter Tryz.func68, Tryz.ntmps68
   go_wp2_with fail
   refine (R.out _).mono ?_
   rintro e w1 ⟨rfl, hb1⟩
   have hx1 := (hb1.block w.heap.size (by simp)).trans (heap_alloc_new _ _)
   have hB1 := (hB0 (.cells #[.int .i64 (t : Int), .int .i64 (s : Int), .slice a len cap] 69)).trans (hb1.mono (by simp))
   have hz1' := lt_of_heap hx1
   have k0 := (cell_of_row w1 w.heap.size 0 _ _ _ hx1).trans rfl
   have k1 := (cell_of_row w1 w.heap.size 1 _ _ _ hx1).trans rfl
   have k2 := (cell_of_row w1 w.heap.size 2 _ _ _ hx1).trans rfl
   have Hx := Qh (Qa hx1 hB1)
   clear hx1 hB1 hb1
   go_wp2_with (at_make; refine wpList_make_own _ rfl (.const (.int .i64 0)) (.tmp 11) 38 rfl (w.heap.size + 1) 5 i8 (.int .u8 0) 1 Tryz.underlying38 hi8 hz0 hz1 .i64 .i64 _ (len + 11) rfl rfl (by omega) (by rw [hz2]; omega) (by unfold maxLen; omega) (by omega) ?_; intro w3 hown hg; have m0 := hg.cell k0 (by simp); have m1 := hg.cell k1 (by simp); have m2 := hg.cell k2 (by simp))
   have hx3 := (hg.block w.heap.size hz1' (by simp)).trans Hx.out.1
   have hB3 := Hx.out.2.grown hg Hx.out.2.size (fun k hk => by cases hk)
   have ho3 : OwnB w3 (w.heap.size + 1) 5 (.slice (some ⟨w1.heap.size, 0, none⟩) 0 (len + 11)) [] := hown
   have hb3 := ho3.at_base (b := w1.heap.size) rfl
   have K3 := Qh (fwrite_any (w.heap.size + 1) _ [] [(2, len), (1, t), (4, s)] 3 w3.heap.size 3 (w3.alloc (.cells #[.int .i64 2, .int .i64 (len : Int), .int .i64 1, .int .i64 (t : Int), .int .i64 4, .int .i64 (s : Int)] 146)) (ho3.alloc _) (by simp; omega) rfl (by decide)
    (nums_row (heap_alloc_new _ _) (fun j hj => by match j, hj with | 0, _ => rfl | 1, _ => rfl | 2, _ => rfl | 3, _ => rfl | 4, _ => rfl | 5, _ => rfl) (by decide)) (by simp [Value.ownBlock]; omega) (by simp; omega) (by simp))
   have H3 := Qh (Qa hx3 hB3)
   clear hx3 hB3 Hx hown hg ho3 k0 k1 k2
   refine (K3.out).mono ?_
   rintro e w4 ⟨v4, rfl, ho4, hg4, hat4⟩
   have hx4 := (hg4.block w.heap.size (by have := lt_of_heap H3.out.1; simp; omega) (by simp [Value.ownBlock]; omega)).trans ((heap_alloc_old _ _ (lt_of_heap H3.out.1)).trans H3.out.1)
   have hB4 : Below w.heap.size w w4 := (H3.out.2.alloc H3.out.2.size _).grown hg4 (by have := H3.out.2.size; simp; omega) (fun k hk => by simp [Value.ownBlock] at hk; omega)
   have n2 := (cell_of_row w4 w.heap.size 2 _ _ _ hx4).trans rfl
   have hw9 : (wrOf [(2, len), (1, t), (4, s)]).length = 7 := by simp [wrOf, be_len]
   have hbw : ∀ c ∈ wrOf [(2, len), (1, t), (4, s)], c < 256 := wrOf_byte _
   rw [List.nil_append] at ho4
   generalize wrOf [(2, len), (1, t), (4, s)] = b4 at ho4 hw9 hbw Hraw
   have hs4 := hs.below hB4 Qn
   have H4 := Qh (Qa hx4 hB4)
   have hsz4 := lt_of_heap hx4
   clear hx4 hB4 H3 hg4 hat4 m0 m1 m2 K3
   go_wp2_with (at_builtin; refine wpList_append_sl rfl (.tmp 26) (.tmp 28) _ rfl (w.heap.size + 1) _ Tryz.underlying38 info_u8 v4 b4 rfl ho4 _ a len cap body rfl hs4 (by omega) (by omega) ?_; intro v5 w5 ho5 hg5 hat5)
   have hB5 : Below w.heap.size w w5 := H4.out.2.grown hg5 H4.out.2.size (fun k hk => by have := (ho4.at_base hk).1; omega)
   have hbb : ∀ c ∈ b4 ++ body, c < 256 := by
    intro c hc
    rcases List.mem_append.1 hc with h | h
    · exact hbw c h
    exact hs.byte c h
   obtain ⟨a5, cap5, hv5, hs5⟩ := ho5.sl hbb
   have hl5 : (b4 ++ body).length = len + 7 := by rw [List.length_append]; have := Hlen.out; omega
   generalize hb5 : b4 ++ body = b5 at ho5 hv5 hs5 hl5 Hraw hbb
   rw [hl5] at hv5 hs5
   subst hv5
   have hsz5 := Nat.lt_of_lt_of_le hsz4 hg5.size
   have HB5 := Qh hB5
   have H5 := Qh ho5
   clear hb5 hB5 ho5 hg5 hat5 ho4 hs4 n2 H4
   go_wp2_with fail
   refine (of_any a5 (len + 7) cap5 b5 _ hs5).mono ?_
   rintro e w6 ⟨rfl, hb6⟩
   have hB6 := HB5.out.trans (hb6.mono HB5.out.size)
   have ho6 := H5.out.below hb6
   have hsz6 := Nat.lt_of_lt_of_le hsz5 hb6.size
   have hml := more_lt 0 b5
   have hwr : IntKind.i64.wrap ((more 0 b5 : Nat) : Int) = ((more 0 b5 : Nat) : Int) := by rw [IntKind.wrap_i64]; omega
   generalize more 0 b5 = m at hml hwr Hraw
   have K6 := Qh (fwrite_any (w.heap.size + 1) _ b5 [(4, m)] 1 w6.heap.size 1 (w6.alloc (.cells #[.int .i64 4, .int .i64 (m : Int)] 146)) (ho6.alloc _) (by simp; omega) rfl (by decide)
    (nums_row (heap_alloc_new _ _) (fun j hj => by match j, hj with | 0, _ => rfl | 1, _ => rfl) (by decide)) (fun h => by have := (ho6.at_base h.symm).2; omega) (by simp; omega) (by omega))
   have H6 := Qh (Qa hB6 ho6)
   clear hB6 hb6 ho6 hs5
   go_wp2_with fail
   refine K6.out.mono ?_
   rintro e w7 ⟨v7, rfl, ho7, hg7, hat7⟩
   have hB7 : Below w.heap.size w w7 := (H6.out.1.alloc H6.out.1.size _).grown hg7 (by have := H6.out.1.size; simp; omega) (fun k hk => by have := (H6.out.2.at_base hk).1; omega)
   rw [← Hraw.out] at ho7
   have H7 := Qh (Qa (ho7.mono (base' := w.heap.size) (by omega)) hB7)
   clear hB7 ho7 hg7 hat7 H6 H5 HB5
   go_wp2
   go_ret
   exact ⟨_, rfl, H7.out.1, H7.out.2⟩
 have hp : put f = [] := by unfold put; rw [if_neg hr]
 rw [hp]
 have R := Qh (right_any f a cap)
 rw [decide_eq_false hr] at R
 go_enter Tryz.func68, Tryz.ntmps68
 go_wp2_with fail
 refine (R.out _).mono ?_
 rintro e w1 ⟨rfl, hb1⟩
 have hB1 := (hB0 (.cells #[.int .i64 f.ty, .int .i64 f.seq, .slice a f.body.length cap] 69)).trans (hb1.mono (by simp))
 go_wp2
 go_ret
 exact ⟨_, rfl, OwnB.nil_ _ _ _, hB1⟩
end
section
open Go.RowKit Go.Sort Go.Maps Go.Shelf
open Crc Frm
open Sgn
attribute [local go_sem] Oper.semAt_some
section
variable {w0 w : World} {dp lp size : Nat} {g : Lg} {t : St} {D : Nat → Prop} {sa : Option Addr} {sc : Nat}
theorem app1_any (h : LK w0 w dp lp size g t D sa sc) (hne : g.segs ≠ []) (bl bb : Nat) (hl : w.cell? ⟨bl, 0, none⟩ = some (.pointer (some ⟨lp, 0, none⟩))) (a : Option Addr) (n c : Nat) (hb : w.cell? ⟨bb, 0, none⟩ = some (.slice a n c)) (hL : Laid w0) (hn : n ≤ 1000000000) (hsize : size ≤ 1000000000) :
 Calls Tryz.prog 69 #[.pointer (some ⟨bl, 0, none⟩), .pointer (some ⟨bb, 0, none⟩)] w fun e w' => e = .returned (.int .i64 (lgRoom size g t n).1) ∧ LMv w0 w dp lp size (lO D lp sa) (lgRoom size g t n).2.2 (lgRoom size g t n).2.1 w' := by
 have MR := Qh (makeRoom_any h hne hL n hn hsize)
 clear h hne hL
 generalize lgRoom size g t n = r at *
 go_enter Tryz.func69, Tryz.ntmps69
 go_wp2_with fail
 refine MR.out.mono ?_
 rintro e w2 ⟨rfl, hm⟩
 have HM := Qh hm
 clear hm MR
 go_wp2
 go_ret
 exact ⟨rfl, HM.out⟩
theorem app2_any (h : LK w0 w dp lp size g t D sa sc) (hne : g.segs ≠ []) (bl bb : Nat) (hl : w.cell? ⟨bl, 0, none⟩ = some (.pointer (some ⟨lp, 0, none⟩))) (hbl : ¬ lO D lp sa bl) (b : List Nat) (a : Option Addr) (n c : Nat) (hb : w.cell? ⟨bb, 0, none⟩ = some (.slice a n c)) (hbb : ¬ lO D lp sa bb)
 (hs : Sl w w.heap.size a n c b) (hfar : ∀ k o, a = some ⟨k, o, none⟩ → ¬ lO D lp sa k) (hL : Laid w0) (hn : n ≤ 1000000000) :
 Calls Tryz.prog 71 #[.pointer (some ⟨bl, 0, none⟩), .pointer (some ⟨bb, 0, none⟩)] w fun e w' => e = .returned (.int .i64 (t.write (lgLast g) b).1) ∧ LMv w0 w dp lp size (lO D lp sa) g (t.write (lgLast g) b).2 w' := by
 have c0 := h.at_.c0
 have hlt := h.at_.lt
 have hown := h.own
 have hll : bl < w.heap.size := block_lt_of_cell hl
 have hbbl : bb < w.heap.size := block_lt_of_cell hb
 have LA := Qh (fun x (hb : Below w.heap.size w x) => last_any (h.at_.on hb) hne ((h.laid hL).on hb))
 have H := Qh (Qa h (Qa hbl (Qa hbb (Qa hs hfar))))
 have hsz := nmS_size (g.segs.getLastD 0)
 change ByteArray.size ⟨(lgLast g).toArray⟩ ≤ 11 at hsz
 clear h hL hne hbl hbb hs hfar
 go_enter Tryz.func71, Tryz.ntmps71
 go_wp2_with fail
 refine wp_region_held_drew (S := fun x => x.cell? ⟨lp, 0, none⟩ = some (.pointer (some ⟨dp, 0, none⟩)) ∧ x.cell? ⟨bl, 0, none⟩ = some (.pointer (some ⟨lp, 0, none⟩)) ∧ x.cell? ⟨bb, 0, none⟩ = some (.slice a n c)) (by kernel_rfl) ⟨c0, hl, hb⟩ (fun hHeld => ?_)
 refine qi 0 (by assumption) ?_
 iterate 5 (refine qk rfl (by kernel_rfl) (fun _ _ _ h => h) (by intro w hSw; (try dsimp only at hSw); go_simp; all_goals with_reducible rfl) (by (try simp only [Act.put, lz]); rfl) ?_)
 refine qo (qi 6 (by assumption) ?_)
 refine qk rfl (by kernel_rfl) (fun _ _ _ h => h) (by intro w hSw; (try dsimp only at hSw); go_simp; all_goals with_reducible rfl) (by (try simp only [Act.put, lz]); rfl) ?_
 refine qo ?_
 refine qr 5 rfl (by kernel_rfl) (fun K hK => ?_)
 rw [if_pos (by rfl)]
 go_simp
 go_at_call 72
 refine (LA.out _ (Below.drew Qb)).mono ?_
 rintro e w2 ⟨rfl, hb2⟩
 have B2 : Below w.heap.size w w2 := below_drew_of hb2
 clear hb2
 have c02 := (B2.cell (p := ⟨lp, 0, none⟩) hlt).trans c0
 have cl2 := (B2.cell (p := ⟨bl, 0, none⟩) hll).trans hl
 have cb2 := (B2.cell (p := ⟨bb, 0, none⟩) hbbl).trans hb
 refine hK.out _ _ ?_ (fun hHeld => ?_)
 · exact ⟨c02, cl2, cb2⟩
 clear hK K
 try simp only [Act.put, lz]
 refine qr 7 rfl (by kernel_rfl) (fun K hK => ?_)
 rw [if_pos (by rfl)]
 go_simp
 go_at_call 62
 refine ((H.out.1.on B2).dk.write ⟨(lgLast g).toArray⟩ (by omega) a n c b ((H.out.2.2.2.1.below B2 Qn).more B2.size) (by omega) (fun _ k o e => fun hd => H.out.2.2.2.2 k o e (.inl hd))).mono ?_
 rintro e w3 ⟨rfl, hm⟩
 have hm2 := (H.out.1.on B2).mv hm
 obtain ⟨D3, k3, b3, d3⟩ := hm
 have hz2 := B2.size
 refine hK.out _ _ ?_ (fun hHeld => ?_)
 · exact ⟨(b3.cell (b := lp) (o := 0) (by omega) hown).trans c02, (b3.cell (b := bl) (o := 0) (by omega) (fun hd => H.out.2.1 (.inl hd))).trans cl2, (b3.cell (b := bb) (o := 0) (by omega) (fun hd => H.out.2.2.1 (.inl hd))).trans cb2⟩
 clear hK K
 try simp only [Act.put, lz]
 refine qi 8 (by assumption) ?_
 refine qk rfl (by kernel_rfl) (fun _ _ _ h => h) (by intro w hSw; (try dsimp only at hSw); go_simp; all_goals with_reducible rfl) (by (try simp only [Act.put, lz]); rfl) ?_
 refine qo ?_
 refine wpAnyH_done (by kernel_rfl) ?_ _
 go_wp2
 go_ret
 exact ⟨rfl, LMv.then (But.of_below B2) (fun _ hk => .inl hk) hm2⟩
abbrev apF : Nat → FuncId
 | 0 => 69
 | _ => 71
abbrev apC (bl bb : Nat) (_ : Nat) : Array Value := #[.pointer (some ⟨bl, 0, none⟩), .pointer (some ⟨bb, 0, none⟩)]
def appSS (size : Nat) (b : List Nat) : List (Lg × St → Int × (Lg × St)) := [fun s => ((lgRoom size s.1 s.2 b.length).1, ((lgRoom size s.1 s.2 b.length).2.2, (lgRoom size s.1 s.2 b.length).2.1)), fun s => ((s.2.write (lgLast s.1) b).1, (s.1, (s.2.write (lgLast s.1) b).2))]
theorem appSS_is (size : Nat) (b : List Nat) (g : Lg) (t : St) : turnS (appSS size b) (g, t) = if (lgRoom size g t b.length).1 ≠ 0 then ((lgRoom size g t b.length).1, ((lgRoom size g t b.length).2.2, (lgRoom size g t b.length).2.1)) else
 (((lgRoom size g t b.length).2.1.write (lgLast (lgRoom size g t b.length).2.2) b).1, ((lgRoom size g t b.length).2.2, ((lgRoom size g t b.length).2.1.write (lgLast (lgRoom size g t b.length).2.2) b).2)) := by
 unfold appSS turnS
 simp only
 by_cases h : (lgRoom size g t b.length).1 ≠ 0
 · rw [if_pos h, if_pos h]
 rw [if_neg h, if_neg h]
 unfold turnS
 simp only
 split
 · rfl
 rename_i h1
 rw [Decidable.not_not] at h1
 exact Prod.ext h1.symm rfl
theorem apps_any (h : LK w0 w dp lp size g t D sa sc) (hne : g.segs ≠ []) (bl bb gb : Nat) (hl : w.cell? ⟨bl, 0, none⟩ = some (.pointer (some ⟨lp, 0, none⟩))) (hbl : ¬ lO D lp sa bl) (b : List Nat) (a : Option Addr) (c : Nat) (hb : w.cell? ⟨bb, 0, none⟩ = some (.slice a b.length c)) (hbb : ¬ lO D lp sa bb)
 (hs : Sl w w.heap.size a b.length c b) (hfar : ∀ k o, a = some ⟨k, o, none⟩ → ¬ lO D lp sa k) (hL : Laid w0) (hn : b.length ≤ 1000000000) (hsize : size ≤ 1000000000) (hb0 : 0 < b.length)
 (hgb : ¬ lO D lp sa gb) (hc : ∀ k, k < 2 → w.cell? ⟨gb, k, none⟩ = some (.func (.func (apF k)) #[] (apC bl bb k))) :
 Calls Tryz.prog 31 #[.slice (some ⟨gb, 0, none⟩) 2 2] w fun e w' => e = .returned (.int .i64 (turnS (appSS size b) (g, t)).1) ∧ LMv w0 w dp lp size (lO D lp sa) (turnS (appSS size b) (g, t)).2.1 (turnS (appSS size b) (g, t)).2.2 w' := by
 have hll : bl < w.heap.size := block_lt_of_cell hl
 have hbbl : bb < w.heap.size := block_lt_of_cell hb
 have hgl : gb < w.heap.size := block_lt_of_cell (hc 0 (by omega))
 have k2 : ∀ x : World, (callFunc 69 (#[] ++ apC bl bb 0)).run Tryz.prog x = .ok (.enter 69 (#[] ++ apC bl bb 0)) x := fun x => by kernel_rfl
 have k3 : ∀ x : World, (callFunc 71 (#[] ++ apC bl bb 1)).run Tryz.prog x = .ok (.enter 71 (#[] ++ apC bl bb 1)) x := fun x => by kernel_rfl
 refine (lturnK_any (appSS size b) 2 rfl apF (fun _ => #[]) (apC bl bb) gb w (fun _ s w' => s.1.segs ≠ [] ∧ LMv w0 w dp lp size (lO D lp sa) s.1 s.2 w') (g, t) (by omega) ?_ ?_ ?_ ⟨hne, h.still Qb⟩).mono fun e w' ⟨he, _, _, hm⟩ => ⟨he, hm⟩
 · rintro k s w' hk ⟨_, D', sa', sc', _, hb, _⟩
   exact (hb.cell hgl hgb).trans (hc k hk)
 · intro k x hk
   match k, hk with
   | 0, _ => exact k2 x
   | 1, _ => exact k3 x
 rintro k f s w' hf ⟨hg, D', sa', sc', hk1, hbu, hO⟩
 have d1 := (hbu.cell (o := 0) hll hbl).trans hl
 have d2 := (hbu.cell (o := 0) hbbl hbb).trans hb
 have nO : ∀ i, i < w.heap.size → ¬ lO D lp sa i → ¬ lO D' lp sa' i := fun i hi hn ho => by rcases hO i ho with h4 | h4; exact hn h4; omega
 match k, hf with
 | 0, hf =>
  injection hf with hf; subst hf
  obtain ⟨g', t'⟩ := s
  exact (app1_any hk1 hg bl bb d1 a b.length c d2 hL hn hsize).mono fun e w'' ⟨he, hm⟩ => ⟨he, lgRoom_ne hg _ _ _, LMv.then hbu hO hm⟩
 | 1, hf =>
  injection hf with hf; subst hf
  obtain ⟨g', t'⟩ := s
  have hs' : Sl w' w'.heap.size a b.length c b := hs.same_ hbu.size (fun hp k o e => by
   obtain ⟨k', o', e', hlt, _⟩ := hs.at_ hp
   rw [e] at e'
   injection e' with e'
   injection e' with e1
   exact hbu.block k (by omega) (hfar k o e))
  exact (app2_any hk1 hg bl bb d1 (nO _ hll hbl) b a b.length c d2 (nO _ hbbl hbb) hs' (fun k o e => by
   obtain ⟨k', o', e', hlt, _⟩ := hs.at_ hb0
   rw [e] at e'
   injection e' with e'
   injection e' with e1
   exact nO k (by omega) (hfar k o e)) hL hn).mono fun e w'' ⟨he, hm⟩ => ⟨he, hg, LMv.then hbu hO hm⟩
 | k + 2, hf => simp [appSS] at hf
end
end
section
open Go.RowKit Go.Sort Go.Maps Go.Shelf
open Crc Frm
open Sgn
attribute [local go_sem] Oper.semAt_some
section
variable {w0 w : World} {dp lp size : Nat} {g : Lg} {t : St} {D : Nat → Prop} {sa : Option Addr} {sc : Nat}
theorem LK.setNext (h : LK w0 w dp lp size g t D sa sc) (n : Int) : LK w0 (w.setCell ⟨lp, 3, none⟩ (.int .i64 n)) dp lp size { g with next := n } t D sa sc := by
 refine ⟨h.dk.setOut ⟨lp, 3, none⟩ _ h.own h.base, ⟨heap_setCell_same w lp 3 _ _ (.int .i64 n) h.at_.blk, ?_, h.at_.nil_⟩, h.base, h.own, fun k o e => ?_⟩
 · exact h.at_.row.but ((But.refl (fun k => k = lp) w).setCell (p := ⟨lp, 3, none⟩) (.inl rfl) _) (fun _ k o e => (h.far k o e).2.1)
 obtain ⟨h1, h2, h3, h4⟩ := h.far k o e
 exact ⟨h1, h2, h3, by simpa using h4⟩
theorem lgappend_any (h : LK w0 w dp lp size g t D sa sc) (hne : g.segs ≠ []) (hL : Laid w0) (kind : Int) (body : List Nat) (a : Option Addr) (c : Nat) (hs : Sl w w.heap.size a body.length c body) (hsize : size ≤ 1000000000) :
 Calls Tryz.prog 25 #[.pointer (some ⟨lp, 0, none⟩), .int .i64 kind, .slice a body.length c] w fun e w' =>
  e = .returned (.tuple #[.int .i64 (lgAppend size g t kind body).1.1, .int .i64 (lgAppend size g t kind body).1.2]) ∧ LMv w0 w dp lp size (lO D lp sa) (lgAppend size g t kind body).2.2 (lgAppend size g t kind body).2.1 w' := by
 have hmf : ∀ (fn : Fn) (first cap : Array Value) (w : World), (Instr.makeFunc fn first cap).run Tryz.prog w = .ok (.func fn first cap) w := fun _ _ _ _ => rfl
 have c3 := h.at_.c3
 have c3a : (w.alloc (.cells #[.pointer (some ⟨lp, 0, none⟩)] 29)).cell? ⟨lp, 3, none⟩ = some (.int .i64 g.next) := (((Below.refl w.heap.size w).alloc Qn _).cell (p := ⟨lp, 3, none⟩) h.at_.lt).trans c3
 obtain ⟨wa, hwa⟩ : ∃ wa, wa = (w.alloc (.cells #[.pointer (some ⟨lp, 0, none⟩)] 29)).alloc (.cells #[.int .i64 kind, .int .i64 g.next, .slice a body.length c] 69) := ⟨_, rfl⟩
 have hb1 : Below w.heap.size w wa := by rw [hwa]; exact (Qb.alloc Qn _).alloc (by simp) _
 have hsa : wa.heap.size = w.heap.size + 2 := by rw [hwa]; simp
 have hcl : wa.cell? ⟨w.heap.size, 0, none⟩ = some (.pointer (some ⟨lp, 0, none⟩)) := by rw [hwa]; simp [go_sem]
 have hfr : wa.heap[w.heap.size + 1]? = some (.cells #[.int .i64 kind, .int .i64 g.next, .slice a body.length c] 69 (0, 0)) := by
  rw [hwa, show w.heap.size + 1 = (w.alloc (.cells #[.pointer (some ⟨lp, 0, none⟩)] 29)).heap.size from by simp]
  exact heap_alloc_new _ _
 have hsw := (hs.below hb1 Qn).more hb1.size
 obtain ⟨f, hf⟩ : ∃ f : Fr, f = ⟨kind, g.next, body⟩ := ⟨_, rfl⟩
 have RT := right_of f kind g.next body.length (by rw [hf]) (by rw [hf]) (by rw [hf]) a c wa
 rw [hwa] at RT
 have RT := Qh RT
 have HA := Qh (Qa hb1 (Qa hsa (Qa hcl (Qa hfr (Qa hsw (Qa hf (Qa h (Qa hne hL))))))))
 have hA : Hid (lgAppend size g t kind body = if ¬ f.right then ((0, 1), t, g) else if (lgRoom size g t (put f).length).1 ≠ 0 then ((0, (lgRoom size g t (put f).length).1), (lgRoom size g t (put f).length).2.1, (lgRoom size g t (put f).length).2.2) else
  if ((lgRoom size g t (put f).length).2.1.write (lgLast (lgRoom size g t (put f).length).2.2) (put f)).1 ≠ 0 then ((0, ((lgRoom size g t (put f).length).2.1.write (lgLast (lgRoom size g t (put f).length).2.2) (put f)).1), ((lgRoom size g t (put f).length).2.1.write (lgLast (lgRoom size g t (put f).length).2.2) (put f)).2, (lgRoom size g t (put f).length).2.2)
  else ((g.next, 0), ((lgRoom size g t (put f).length).2.1.write (lgLast (lgRoom size g t (put f).length).2.2) (put f)).2, { (lgRoom size g t (put f).length).2.2 with next := g.next + 1 })) := by rw [hf]; rfl
 clear hb1 hsa hcl hfr hsw h hne hL hs hf
 by_cases hr : f.right
 · rw [decide_eq_true hr] at RT
   go_enter Tryz.func25, Tryz.ntmps25
   go_wp2_with fail
   refine RT.out.mono ?_
   rintro e w1 ⟨rfl, hb1⟩
   rw [← hwa] at hb1
   have hB1 : Below w.heap.size w w1 := HA.out.1.trans (hb1.mono HA.out.1.size)
   have hz1 := hb1.size
   have fr1 := (hb1.block _ (lt_of_heap HA.out.2.2.2.1)).trans HA.out.2.2.2.1
   have u0 := (cell_of_row w1 _ 0 _ _ _ fr1).trans rfl
   have u1 := (cell_of_row w1 _ 1 _ _ _ fr1).trans rfl
   have u2 := (cell_of_row w1 _ 2 _ _ _ fr1).trans rfl
   have hs1 := (HA.out.2.2.2.2.1.below hb1 Qn).more hz1
   have PT : Calls Tryz.prog 68 #[.agg #[.int .i64 kind, .int .i64 g.next, .slice a body.length c]] w1 fun e w' => ∃ v, e = .returned v ∧ OwnB w' w1.heap.size 5 v (put f) ∧ Below w1.heap.size w1 w' := by
    rw [HA.out.2.2.2.2.2.1]
    exact put_any ⟨kind, g.next, body⟩ a c w1 hs1
   have PT := Qh PT
   have hl1 := (hb1.cell (p := ⟨w.heap.size, 0, none⟩) (by have := HA.out.2.1; show w.heap.size < _; omega)).trans HA.out.2.2.1
   have hpb : ∀ x ∈ put f, x < 256 := by
    intro x hx
    unfold put at hx
    rw [if_pos hr] at hx
    exact raw_byte f (by rw [HA.out.2.2.2.2.2.1]; exact hs1.byte) x hx
   have hpl : (put f).length = f.body.length + 11 := by unfold put; rw [if_pos hr, raw_len]
   have hr2 := hr
   unfold Fr.right at hr2
   have hfn : f.seq = g.next := by rw [HA.out.2.2.2.2.2.1]
   have HB := Qh (Qa hB1 (Qa fr1 (Qa hpb (Qa hl1 hz1))))
   have HP := Qh (Qa hpl (Qa hr2 hfn))
   have hA2 := Qh (hA.out.trans (if_neg (fun h => h hr)))
   clear hB1 fr1 hs1 hpb hl1 hb1 hz1 RT hpl hr2 hfn hA hr
   go_wp2_with fail
   refine PT.out.mono ?_
   rintro e w2 ⟨v, rfl, hv, hb2⟩
   obtain ⟨va, vc, rfl, hvs, hvb⟩ := hv.sl_base HB.out.2.2.1
   obtain ⟨b, hbe⟩ : ∃ b, b = put f := ⟨_, rfl⟩
   rw [← hbe] at hvs hA2 ⊢
   have hpl : b.length = f.body.length + 11 := by rw [hbe]; exact HP.out.1
   have hbl : b.length ≤ 1811 := by have := HP.out.2.1; omega
   have hb0 : 0 < b.length := by omega
   clear hv hbe hpl PT
   obtain ⟨w4, hw4⟩ : ∃ w4, w4 = (w2.alloc (.cells #[.slice va b.length vc] 38)).alloc (.cells #[.func (.func 69) #[] #[.pointer (some ⟨w.heap.size, 0, none⟩), .pointer (some ⟨w2.heap.size, 0, none⟩)], .func (.func 71) #[] #[.pointer (some ⟨w.heap.size, 0, none⟩), .pointer (some ⟨w2.heap.size, 0, none⟩)]] 62) := ⟨_, rfl⟩
   have hb4 : Below w2.heap.size w2 w4 := by rw [hw4]; exact (Qb.alloc Qn _).alloc (by simp) _
   have hz4 : w4.heap.size = w2.heap.size + 2 := by rw [hw4]; simp
   have hB2 : Below w.heap.size w w2 := HB.out.1.trans (hb2.mono HB.out.1.size)
   have hz2 := hb2.size
   have hzw := HB.out.1.size
   have hza := HA.out.2.1
   have hz1a := HB.out.2.2.2.2
   have hc4 : ∀ k, k < 2 → w4.cell? ⟨w2.heap.size + 1, k, none⟩ = some (.func (.func (apF k)) #[] (apC w.heap.size w2.heap.size k)) := by
    intro k hk
    rw [hw4, show w2.heap.size + 1 = (w2.alloc (.cells #[.slice va b.length vc] 38)).heap.size from by simp]
    match k, hk with
    | 0, _ => exact (cell_of_row _ _ 0 _ _ _ (heap_alloc_new _ _)).trans rfl
    | 1, _ => exact (cell_of_row _ _ 1 _ _ _ (heap_alloc_new _ _)).trans rfl
   have hbb4 : w4.cell? ⟨w2.heap.size, 0, none⟩ = some (.slice va b.length vc) := by rw [hw4]; simp [go_sem]
   have hl4 := ((hb2.trans (hb4.mono hz2)).cell (p := ⟨w.heap.size, 0, none⟩) (by show w.heap.size < _; omega)).trans HB.out.2.2.2.1
   have hK4 := HA.out.2.2.2.2.2.2.1.on (hB2.trans (hb4.mono hB2.size))
   have hO := HA.out.2.2.2.2.2.2.1.lt
   have nO : ∀ k, w.heap.size ≤ k → ¬ lO D lp sa k := fun k hk h => by have := hO _ h; omega
   have hr0 := HA.out.2.2.2.2.2.2.2.1
   have AP := apps_any hK4 hr0 w.heap.size w2.heap.size (w2.heap.size + 1) hl4 (nO _ Qn) b va vc hbb4 (nO _ (by omega)) ((hvs.below hb4 Qn).more hb4.size) (fun k o e => nO _ (by have := hvb k o e; omega)) HA.out.2.2.2.2.2.2.2.2 (by omega) hsize hb0 (nO _ (by omega)) hc4
   have hres : Hid (lgAppend size g t kind body = if (turnS (appSS size b) (g, t)).1 ≠ 0 then ((0, (turnS (appSS size b) (g, t)).1), (turnS (appSS size b) (g, t)).2.2, (turnS (appSS size b) (g, t)).2.1) else ((g.next, 0), (turnS (appSS size b) (g, t)).2.2, { (turnS (appSS size b) (g, t)).2.1 with next := g.next + 1 })) := by
    show _ = _
    rw [hA2.out, appSS_is]
    by_cases h1 : (lgRoom size g t b.length).1 ≠ 0
    · rw [if_pos h1, if_pos h1, if_pos h1]
    rw [if_neg h1, if_neg h1]
   have hrn : Hid ((turnS (appSS size b) (g, t)).2.1.next = g.next) := by
    show _ = _
    rw [appSS_is]
    split <;> exact lgRoom_next _ _ _ _
   have fr4 := ((hb2.trans (hb4.mono hz2)).block _ (lt_of_heap HB.out.2.1)).trans HB.out.2.1
   have HC := Qh (Qa (hB2.trans (hb4.mono hB2.size)) (Qa fr4 (Qa hl4 (Qa hO (Qa hw4 hz4)))))
   have hwz : w.heap.size + 4 ≤ w4.heap.size := by omega
   rw [hw4] at AP
   have AP := Qh AP
   clear hb4 hz4 hB2 hz2 hzw hza hz1a hc4 hbb4 hl4 hK4 hO nO hr0 hvs hvb hb2 hA2 fr4 hw4
   generalize turnS (appSS size b) (g, t) = r at *
   go_wp2_with fail
   refine AP.out.mono ?_
   rintro e w5 ⟨rfl, hm⟩
   rw [← HC.out.2.2.2.2.1] at hm
   obtain ⟨x, g', t'⟩ := r
   have hzc := HC.out.2.2.2.2.2
   have hOc := HC.out.2.2.2.1
   have hbc := HC.out.1
   have hzb := hbc.size
   have nO : ∀ k, w.heap.size ≤ k → ¬ lO D lp sa k := fun k hk h => by have := hOc _ h; omega
   obtain ⟨D5, sa5, sc5, k5, b5, f5⟩ := hm
   have fr5 := (b5.block _ (lt_of_heap HC.out.2.1) (nO _ (by omega))).trans HC.out.2.1
   have l5 := (b5.cell (b := w.heap.size) (o := 0) (block_lt_of_cell HC.out.2.2.1) (nO _ Qn)).trans HC.out.2.2.1
   have y1 := (cell_of_row w5 _ 1 _ _ _ fr5).trans rfl
   have c35 := k5.at_.c3
   have z35 := k5.at_.z 3
   have hg' : g'.next = g.next := hrn.out
   rw [hg'] at c35
   have bw := (But.of_below (O := lO D lp sa) hbc).trans b5 (fun _ h => .inl h)
   have H5 := Qh (Qa k5 (Qa bw (Qa f5 (Qa hg' fr5))))
   have hnx1 : 0 ≤ g.next := by have := HP.out.2.1; have := HP.out.2.2; omega
   have hnx2 : g.next ≤ 1073741824 := by have := HP.out.2.1; have := HP.out.2.2; omega
   clear k5 b5 f5 hg' fr5 bw hzc hOc hbc nO hzb AP
   by_cases hx : x = 0
   · subst hx
     go_wp2_with fail
     go_ret2
     have hr9 : lgAppend size g t kind body = ((g.next, 0), t', { g' with next := g.next + 1 }) := hres.out.trans (by simp)
     rw [hr9]
     refine ⟨rfl, D5, sa5, sc5, H5.out.1.setNext (g.next + 1), H5.out.2.1.setCell (p := ⟨lp, 3, none⟩) (.inl (.inr (.inl rfl))) _, fun k hk => ?_⟩
     rcases H5.out.2.2.1 k hk with h4 | h4
     · exact .inl h4
     right; omega
   have hx' : (x != 0) = true := by simpa using hx
   go_wp2_with fail
   go_ret2
   have hr9 : lgAppend size g t kind body = ((0, x), t', g') := hres.out.trans (if_pos hx)
   rw [hr9]
   refine ⟨rfl, D5, sa5, sc5, H5.out.1, H5.out.2.1, fun k hk => ?_⟩
   rcases H5.out.2.2.1 k hk with h4 | h4
   · exact .inl h4
   right; omega
 rw [decide_eq_false hr] at RT
 have hres : Hid (lgAppend size g t kind body = ((0, 1), t, g)) := hA.out.trans (if_pos hr)
 clear hA
 go_enter Tryz.func25, Tryz.ntmps25
 go_wp2_with fail
 refine RT.out.mono ?_
 rintro e w1 ⟨rfl, hb1⟩
 rw [← hwa] at hb1
 have HB := Qh (HA.out.1.trans (hb1.mono HA.out.1.size))
 clear hb1 RT
 go_wp2
 go_ret2
 rw [hres.out]
 exact ⟨rfl, HA.out.2.2.2.2.2.2.1.still HB.out⟩
end
end
section
open Go.ChangeShapes Go.WideShapes Go.RowKit
structure OgV where
 what : Int
 kind : Int
 ba : Option Addr
 bc : Nat
 bs : List Nat
 n : Int
 ka : Option Addr
 kc : Nat
 ks : List Int
instance : Inhabited OgV := ⟨⟨0, 0, none, 0, [], 0, none, 0, []⟩⟩
abbrev ogC (op : OgV) : List Value := [.int .i64 op.what, .int .i64 op.kind, .slice op.ba op.bs.length op.bc, .int .i64 op.n, .slice op.ka op.ks.length op.kc]
structure OgIn (w : World) (B : Nat) (op : OgV) : Prop where
 sl : Sl w B op.ba op.bs.length op.bc op.bs
 row : Row w B op.ka op.ks.length op.kc 1 (intsC op.ks)
 what_ : -9223372036854775808 ≤ op.what ∧ op.what ≤ 9223372036854775807
 kind_ : -9223372036854775808 ≤ op.kind ∧ op.kind ≤ 9223372036854775807
 n_ : -9223372036854775808 ≤ op.n ∧ op.n ≤ 9223372036854775807
structure OgsIn (w : World) (B : Nat) (a : Option Addr) (len cap : Nat) (l : List OgV) : Prop where
 length : l.length = len
 le : len ≤ cap
 max : cap ≤ maxLen
 at_ : 0 < len → ∃ b o, a = some ⟨b, o, none⟩ ∧ b < B ∧ ∀ (k : Nat) (op : OgV), l[k]? = some op → (∀ j, j < 5 → w.cell? ⟨b, o + k * 5 + j, none⟩ = (ogC op)[j]?) ∧ OgIn w B op
theorem OgIn.below {w w' : World} {B B' : Nat} {op : OgV} (h : OgIn w B op) (hb : Below B' w w') (hB : B ≤ B') : OgIn w' B' op :=
 ⟨h.sl.below hb hB, h.row.below hb hB, h.what_, h.kind_, h.n_⟩
theorem OgsIn.below {w w' : World} {B B' : Nat} {a : Option Addr} {len cap : Nat} {l : List OgV} (h : OgsIn w B a len cap l) (hb : Below B' w w') (hB : B ≤ B') : OgsIn w' B' a len cap l :=
 ⟨h.length, h.le, h.max, fun hp => by
  obtain ⟨b, o, e, hlt, hc⟩ := h.at_ hp
  exact ⟨b, o, e, by omega, fun k op hop => ⟨fun j hj => (hb.cell (p := ⟨b, o + k * 5 + j, none⟩) (by show b < B'; omega)).trans ((hc k op hop).1 j hj), (hc k op hop).2.below hb hB⟩⟩⟩
section
variable {H : Type} {enc : TypeId × Value → H}
end
end
section
open Go.RowKit Go.Sort Go.Maps
open Crc Frm
open Sgn
attribute [local go_sem] Oper.semAt_some
def lgDo (size : Nat) (g : Lg) (t : St) (op : OgV) : (Int × Int) × St × Lg :=
 if op.what = 4 ∨ op.what = 5 then ((0, (lgSync g t).1), (lgSync g t).2, g)
 else if op.what = 6 then ((0, (lgRetain g t op.n).1), (lgRetain g t op.n).2.1, (lgRetain g t op.n).2.2)
 else if op.what = 7 then ((0, 0), t.fuse_ op.n, g)
 else if op.what = 8 then ((0, 0), t.fail_ op.n, g)
 else lgAppend size g t op.kind op.bs
abbrev ogVal (op : OgV) : Value := .agg #[.int .i64 op.what, .int .i64 op.kind, .slice op.ba op.bs.length op.bc, .int .i64 op.n, .slice op.ka op.ks.length op.kc]
theorem cell_box5 (w : World) (v0 v1 v2 v3 v4 : Value) (t : TypeId) :
 (w.alloc (.cells #[v0, v1, v2, v3, v4] t)).cell? ⟨w.heap.size, 0, none⟩ = some v0 ∧ (w.alloc (.cells #[v0, v1, v2, v3, v4] t)).cell? ⟨w.heap.size, 1, none⟩ = some v1 ∧ (w.alloc (.cells #[v0, v1, v2, v3, v4] t)).cell? ⟨w.heap.size, 2, none⟩ = some v2 ∧
 (w.alloc (.cells #[v0, v1, v2, v3, v4] t)).cell? ⟨w.heap.size, 3, none⟩ = some v3 ∧ (w.alloc (.cells #[v0, v1, v2, v3, v4] t)).cell? ⟨w.heap.size, 4, none⟩ = some v4 :=
 ⟨(cell_of_row _ _ 0 _ _ _ (heap_alloc_new w _)).trans rfl, (cell_of_row _ _ 1 _ _ _ (heap_alloc_new w _)).trans rfl, (cell_of_row _ _ 2 _ _ _ (heap_alloc_new w _)).trans rfl, (cell_of_row _ _ 3 _ _ _ (heap_alloc_new w _)).trans rfl, (cell_of_row _ _ 4 _ _ _ (heap_alloc_new w _)).trans rfl⟩
section
variable {w0 w : World} {dp lp size : Nat} {g : Lg} {t : St} {D : Nat → Prop} {sa : Option Addr} {sc : Nat}
theorem LMv.before {w1 w' : World} {O : Nat → Prop} {g' : Lg} {t' : St} (hb : Below w.heap.size w w1) (h : LMv w0 w1 dp lp size O g' t' w') : LMv w0 w dp lp size O g' t' w' := LMv.then (But.of_below (O := O) hb) (fun _ hk => .inl hk) h
def Did (w0 w : World) (dp lp size : Nat) (O : Nat → Prop) (r : (Int × Int) × St × Lg) (e : Ending) (w' : World) : Prop :=
 e = .returned (.tuple #[.pointer (some ⟨lp, 0, none⟩), .int .i64 r.1.1, .int .i64 r.1.2]) ∧ LMv w0 w dp lp size O r.2.2 r.2.1 w'
theorem do6_any (h : LK w0 w dp lp size g t D sa sc) (hne : g.segs ≠ []) (hL : Laid w0) (hlen : g.segs.length ≤ 1000) (hsize : size ≤ 1000000000) (op : OgV) {B : Nat} (ho : OgIn w B op) (hB : B ≤ w0.heap.size) (h9 : op.what ≠ 9) :
 Calls Tryz.prog 11 #[.pointer (some ⟨dp, 0, none⟩), .pointer (some ⟨lp, 0, none⟩), .int .i64 (size : Int), ogVal op] w (Did w0 w dp lp size (lO D lp sa) (lgDo size g t op)) := by
 have hb1 : Below w.heap.size w (w.alloc (.cells #[.int .i64 op.what, .int .i64 op.kind, .slice op.ba op.bs.length op.bc, .int .i64 op.n, .slice op.ka op.ks.length op.kc] 41)) := Qb.alloc Qn _
 obtain ⟨x0, x1, x2, x3, x4⟩ := cell_box5 w (.int .i64 op.what) (.int .i64 op.kind) (.slice op.ba op.bs.length op.bc) (.int .i64 op.n) (.slice op.ka op.ks.length op.kc) 41
 have hwB : B ≤ w.heap.size := Nat.le_trans hB h.dk.below.size
 have k1 := h.on hb1
 have CS := Qh (lsync_any k1 hne hL)
 have CR := Qh (retain_any k1 hL hne hlen op.n)
 have CF := Qh ((k1.dk.fuse op.n ho.n_.2).mono fun e w' hh => Qa hh.1 (k1.mv hh.2))
 have CL := Qh ((k1.dk.fail op.n ho.n_.2).mono fun e w' hh => Qa hh.1 (k1.mv hh.2))
 have CA := Qh (lgappend_any k1 hne hL op.kind op.bs op.ba op.bc ((ho.sl.below hb1 hwB).more (by simp <;> omega)) hsize)
 have HB := Qh hb1
 have HD : Hid (lgDo size g t op = if op.what = 4 ∨ op.what = 5 then ((0, (lgSync g t).1), (lgSync g t).2, g) else if op.what = 6 then ((0, (lgRetain g t op.n).1), (lgRetain g t op.n).2.1, (lgRetain g t op.n).2.2) else if op.what = 7 then ((0, 0), t.fuse_ op.n, g) else if op.what = 8 then ((0, 0), t.fail_ op.n, g) else lgAppend size g t op.kind op.bs) := rfl
 clear hb1 k1 ho h
 generalize lgDo size g t op = r at *
 show Calls Tryz.prog 11 #[.pointer (some ⟨dp, 0, none⟩), .pointer (some ⟨lp, 0, none⟩), .int .i64 (size : Int), .agg #[.int .i64 op.what, .int .i64 op.kind, .slice op.ba op.bs.length op.bc, .int .i64 op.n, .slice op.ka op.ks.length op.kc]] w _
 generalize op.what = what at *
 by_cases h4 : what = 4
 · have hr : r = ((0, (lgSync g t).1), (lgSync g t).2, g) := HD.out.trans (by rw [if_pos (by omega)])
   subst hr h4
   clear HD
   go_enter Tryz.func11, Tryz.ntmps11
   go_wp2_with fail
   refine CS.out.mono ?_
   rintro e w' ⟨rfl, hmv⟩
   have HM := Qh (hmv.before HB.out)
   clear hmv
   go_wp2
   go_ret3
   exact ⟨rfl, HM.out⟩
 by_cases h5 : what = 5
 · have hr : r = ((0, (lgSync g t).1), (lgSync g t).2, g) := HD.out.trans (by rw [if_pos (by omega)])
   subst hr h5
   clear HD
   go_enter Tryz.func11, Tryz.ntmps11
   go_wp2_with fail
   refine CS.out.mono ?_
   rintro e w' ⟨rfl, hmv⟩
   have HM := Qh (hmv.before HB.out)
   clear hmv
   go_wp2
   go_ret3
   exact ⟨rfl, HM.out⟩
 by_cases h6 : what = 6
 · have hr : r = ((0, (lgRetain g t op.n).1), (lgRetain g t op.n).2.1, (lgRetain g t op.n).2.2) := HD.out.trans (by rw [if_neg (by omega), if_pos (by omega)])
   subst hr h6
   clear HD
   go_enter Tryz.func11, Tryz.ntmps11
   go_wp2_with fail
   refine CR.out.mono ?_
   rintro e w' ⟨rfl, hmv⟩
   have HM := Qh (hmv.before HB.out)
   clear hmv
   go_wp2
   go_ret3
   exact ⟨rfl, HM.out⟩
 by_cases h7 : what = 7
 · have hr : r = ((0, 0), t.fuse_ op.n, g) := HD.out.trans (by rw [if_neg (by omega), if_neg (by omega), if_pos (by omega)])
   subst hr h7
   clear HD
   go_enter Tryz.func11, Tryz.ntmps11
   go_wp2_with fail
   refine CF.out.mono ?_
   rintro e w' ⟨rfl, hmv⟩
   have HM := Qh (hmv.before HB.out)
   clear hmv
   go_wp2
   go_ret3
   exact ⟨rfl, HM.out⟩
 by_cases h8 : what = 8
 · have hr : r = ((0, 0), t.fail_ op.n, g) := HD.out.trans (by rw [if_neg (by omega), if_neg (by omega), if_neg (by omega), if_pos (by omega)])
   subst hr h8
   clear HD
   go_enter Tryz.func11, Tryz.ntmps11
   go_wp2_with fail
   refine CL.out.mono ?_
   rintro e w' ⟨rfl, hmv⟩
   have HM := Qh (hmv.before HB.out)
   clear hmv
   go_wp2
   go_ret3
   exact ⟨rfl, HM.out⟩
 have hr : r = lgAppend size g t op.kind op.bs := HD.out.trans (by rw [if_neg (by omega), if_neg (by omega), if_neg (by omega), if_neg (by omega)])
 subst hr
 clear HD
 go_enter Tryz.func11, Tryz.ntmps11
 go_wp2_with fail
 refine CA.out.mono ?_
 rintro e w' ⟨rfl, hmv⟩
 have HM := Qh (hmv.before HB.out)
 clear hmv
 go_wp2
 go_ret3
 exact ⟨rfl, HM.out⟩
end
def Few6 (w : World) (len : Nat) (e : Ending) (w' : World) : Prop := ∃ g : Bool, e = .returned (.bool g) ∧ (g = false → len ≤ 120) ∧ Below w.heap.size w w'
theorem great6_any (a : Option Addr) (len cap : Nat) (l : List OgV) (w : World) (ho : OgsIn w w.heap.size a len cap l) : Calls Tryz.prog 8 #[.slice a len cap] w (Few6 w len) := by
 have hle := ho.le
 have hln := ho.length
 have hmx := ho.max
 unfold maxLen at hmx
 have HO := Qh ho
 clear ho
 go_enter Tryz.func8, Tryz.ntmps8
 go_wp2_with fail
 go_loopw [3, 4] (fun n i wr => ∃ k N : Nat, k ≤ len ∧ i = .int .i64 (k : Int) ∧ n = .int .i64 (N : Int) ∧ (N ≤ 27000 ∨ N = len) ∧ Below w.heap.size w wr) (fun _ i _ => len - (intOf i).toNat)
 case atStart => exact ⟨0, len, Nat.zero_le _, rfl, rfl, .inr rfl, Below.refl _ _⟩
 case round =>
  obtain ⟨k, N, hk, rfl, rfl, hN, hnx⟩ := hrel
  by_cases hc : k < len ∧ N < 9000
  · obtain ⟨hlt, hN2⟩ := hc
    have d1 : decide ((k : Int) < (len : Int)) = true := by simp; omega
    have d2 : decide ((N : Int) < 9000) = true := by simp; omega
    obtain ⟨b, o, rfl, hb, hcell⟩ := HO.out.at_ (by omega)
    obtain ⟨op, hop⟩ : ∃ op, l[k]? = some op := ⟨_, List.getElem?_eq_getElem (by omega)⟩
    obtain ⟨hcj, hi⟩ := hcell k op hop
    have c2 := hcj 2 (by omega)
    have c4 := hcj 4 (by omega)
    have e2 : wr.cell? ⟨b, o + k * 5 + 2, none⟩ = some (.slice op.ba op.bs.length op.bc) := (hnx.cell (p := ⟨b, o + k * 5 + 2, none⟩) hb).trans c2
    have e4 : wr.cell? ⟨b, o + k * 5 + 4, none⟩ = some (.slice op.ka op.ks.length op.kc) := (hnx.cell (p := ⟨b, o + k * 5 + 4, none⟩) hb).trans c4
    generalize op.bs.length = m2 at e2
    generalize op.ks.length = m4 at e4
    obtain ⟨z2, hz2⟩ : ∃ z : Nat, z = min m2 9000 := ⟨_, rfl⟩
    obtain ⟨z4, hz4⟩ : ∃ z : Nat, z = min m4 9000 := ⟨_, rfl⟩
    have q2 : min (m2 : Int) 9000 = (z2 : Int) := by omega
    have q4 : min (m4 : Int) 9000 = (z4 : Int) := by omega
    have b2 : z2 ≤ 9000 := by omega
    have b4 : z4 ≤ 9000 := by omega
    have w1 : IntKind.i64.wrap ((N : Int) + (z2 : Int)) = ((N + z2 : Nat) : Int) := by rw [IntKind.wrap_i64]; omega
    have w2 : IntKind.i64.wrap (((N + z2 : Nat) : Int) + (z4 : Int)) = ((N + z2 + z4 : Nat) : Int) := by rw [IntKind.wrap_i64]; omega
    have v2 : IntKind.i64.wrap (z2 : Int) = (z2 : Int) := by rw [IntKind.wrap_i64]; omega
    have v4 : IntKind.i64.wrap (z4 : Int) = (z4 : Int) := by rw [IntKind.wrap_i64]; omega
    have hlt' : (k : Int) < (len : Int) := by omega
    have hk0 : (0 : Int) ≤ (k : Int) := by omega
    have HX := Qh (Qa hnx (show N + z2 + z4 ≤ 27000 by omega))
    clear hz2 hz4 hnx hcell hcj c2 c4 hop hi hN
    generalize N + z2 + z4 = N5 at *
    generalize N + z2 = N3 at *
    go_wp2_with fail
    refine wp_region_held_drew (S := fun x => x.cell? ⟨b, o + k * 5 + 2, none⟩ = some (.slice op.ba m2 op.bc) ∧ x.cell? ⟨b, o + k * 5 + 4, none⟩ = some (.slice op.ka m4 op.kc)) (by kernel_rfl) ⟨e2, e4⟩ (fun hHeld => ?_)
    refine qi 0 (by assumption) ?_
    iterate 18 (refine qk rfl (by kernel_rfl) (fun _ _ _ h => h) (by intro w hSw; (try dsimp only at hSw); go_simp; all_goals with_reducible rfl) (by (try simp only [Act.put, lz]); rfl) ?_)
    refine qo ?_
    refine wpAnyH_done (by kernel_rfl) ?_ _
    clear hHeld
    go_wp2
    go_roundw
    case rel => exact ⟨k + 1, N5, by omega, by go_num, rfl, .inl HX.out.2, Below.drew HX.out.1⟩
    case measure => simp [intOf]; omega
  have HX := Qh hnx
  clear hnx hN
  by_cases hkl : k < len
  · have hN2 : ¬ N < 9000 := fun h => hc ⟨hkl, h⟩
    clear hc
    have d1 : decide ((k : Int) < (len : Int)) = true := by simp; omega
    have d2 : decide ((N : Int) < 9000) = false := by simp; omega
    go_wp2
    all_goals
     go_ret
     exact ⟨_, rfl, fun h => (by first | (simp at h; done) | (simp at h; omega)), HX.out⟩
  clear hc
  have d1 : decide ((k : Int) < (len : Int)) = false := by simp; omega
  go_wp2
  all_goals
   go_ret
   exact ⟨_, rfl, fun h => (by first | (simp at h; done) | (simp at h; omega)), HX.out⟩
end
section
open Go.RowKit Go.Sort Go.Maps
open Crc Frm
open Sgn
structure FrF (w : World) (base top : Nat) (a : Option Addr) (len cap : Nat) (fs : List Fr) : Prop where
 length : fs.length = len
 le : len ≤ cap
 max : cap ≤ maxLen
 top_ : top ≤ w.heap.size
 at_ : 0 < len → ∃ b o, a = some ⟨b, o, none⟩ ∧ base ≤ b ∧ b < top ∧ ∀ k f, fs[k]? = some f → ∃ ba bc, w.cell? ⟨b, o + k * 3, none⟩ = some (.int .i64 f.ty) ∧ w.cell? ⟨b, o + k * 3 + 1, none⟩ = some (.int .i64 f.seq) ∧
  w.cell? ⟨b, o + k * 3 + 2, none⟩ = some (.slice ba f.body.length bc) ∧ Sl w top ba f.body.length bc f.body ∧ (0 < f.body.length → ∀ b' o', ba = some ⟨b', o', none⟩ → base ≤ b')
section
variable {w w' : World} {base top : Nat} {a : Option Addr} {len cap : Nat} {fs : List Fr}
theorem FrF.frs (h : FrF w base top a len cap fs) : Frs w w.heap.size a len cap fs :=
 ⟨h.length, h.le, h.max, fun hp => by
  have ht := h.top_
  obtain ⟨b, o, e, _, hlt, hc⟩ := h.at_ hp
  refine ⟨b, o, e, by omega, fun k f hf => ?_⟩
  obtain ⟨ba, bc, h1, h2, h3, h4, _⟩ := hc k f hf
  exact ⟨ba, bc, h1, h2, h3, h4.more ht⟩⟩
theorem FrF.but {O : Nat → Prop} (h : FrF w base top a len cap fs) (hb : But O w w') (hO : ∀ k, base ≤ k → k < top → ¬ O k) : FrF w' base top a len cap fs :=
 ⟨h.length, h.le, h.max, Nat.le_trans h.top_ hb.size, fun hp => by
  have ht := h.top_
  obtain ⟨b, o, e, hba, hlt, hc⟩ := h.at_ hp
  have hcell : ∀ j, w'.cell? ⟨b, j, none⟩ = w.cell? ⟨b, j, none⟩ := fun j => World.cell?_of_block (w := w) (a := ⟨b, j, none⟩) (hb.block b (by omega) (hO b hba hlt))
  refine ⟨b, o, e, hba, hlt, fun k f hf => ?_⟩
  obtain ⟨ba, bc, h1, h2, h3, h4, h5⟩ := hc k f hf
  refine ⟨ba, bc, (hcell _).trans h1, (hcell _).trans h2, (hcell _).trans h3, ⟨h4.length, h4.le, h4.max, h4.byte, h4.none_, fun hp' => ?_⟩, h5⟩
  obtain ⟨b2, o2, e2, hl2, hc2⟩ := h4.at_ hp'
  exact ⟨b2, o2, e2, hl2, fun k hk => (World.cell?_of_block (w := w) (a := ⟨b2, o2 + k, none⟩) (hb.block b2 (by omega) (hO b2 (h5 hp' _ _ e2) hl2))).trans (hc2 k hk)⟩⟩
theorem FrF.on (h : FrF w base top a len cap fs) (hb : Below w.heap.size w w') : FrF w' base top a len cap fs := h.but (O := fun _ => False) (But.of_below hb) (fun _ _ _ hf => hf)
theorem FrF.of {v : Value} {ts : List FC} (h : OwnF w base v ts) (hB : BB base ts) : ∃ a cap, v = .slice a ts.length cap ∧ FrF w base w.heap.size a ts.length cap (ts.map (·.1)) := by
 rcases h.own.2 with ⟨rfl, h0⟩ | ⟨g, cap, cur, rfl, hb, hh, hn, hc, hsz, htk⟩
 · have : ts = [] := List.eq_nil_of_length_eq_zero h0
   subst this
   exact ⟨none, 0, rfl, ⟨rfl, Nat.le_refl _, by simp [maxLen], Nat.le_refl _, fun h => absurd h (by simp)⟩⟩
 refine ⟨_, cap, rfl, ⟨by simp, hn, hc, Nat.le_refl _, fun _ => ⟨g, 0, rfl, hb, lt_of_heap hh, fun k f hf => ?_⟩⟩⟩
 rw [List.getElem?_map] at hf
 obtain ⟨t, ht, rfl⟩ := Option.map_eq_some_iff.1 hf
 have hk := (List.getElem?_eq_some_iff.1 ht).1
 have hm := List.mem_of_getElem? ht
 obtain ⟨h1, h2, h3⟩ := fcells_get ts k t ht
 refine ⟨t.2.1, t.2.2, ?_, ?_, ?_, (h.bodies t hm).1, fun _ b o e => hB t hm b o e⟩
 · rw [Nat.zero_add, World.ownsRow.cellAt h.own (k * 3) (by omega), h1]
 · rw [Nat.zero_add, World.ownsRow.cellAt h.own (k * 3 + 1) (by omega), h2]
 rw [Nat.zero_add, World.ownsRow.cellAt h.own (k * 3 + 2) (by omega), h3]
end
def GotF (w : World) (fs : List Fr) (e : Ending) (w' : World) : Prop := ∃ a cap, e = .returned (.slice a fs.length cap) ∧ FrF w' w.heap.size w'.heap.size a fs.length cap fs ∧ Below w.heap.size w w'
section
variable {w0 w w' : World} {dp lp size : Nat} {g : Lg} {t : St} {D : Nat → Prop} {sa : Option Addr} {sc : Nat}
theorem frames_got (h : LK w0 w dp lp size g t D sa sc) (hL : Laid w0) (hlen : g.segs.length ≤ 100) {fs : List Fr} (hf : lgFrames g t = fs) : Calls Tryz.prog 15 #[.pointer (some ⟨lp, 0, none⟩)] w (GotF w fs) :=
 (frames_any h hL hlen).mono fun e w' ⟨v, ts, he, ho, hts, hb, hB⟩ => by
  obtain ⟨a, cap, hv, hF⟩ := FrF.of ho hB
  rw [hts, hf] at hF
  have hl : ts.length = fs.length := by rw [← hf, ← hts, List.length_map]
  rw [hl] at hF hv
  exact ⟨a, cap, by rw [he, hv], hF, hb⟩
theorem LMv.far {O : Nat → Prop} {g' : Lg} {t' : St} (h : LMv w0 w dp lp size O g' t' w') : ∃ D' sa' sc', LK w0 w' dp lp size g' t' D' sa' sc' ∧ But O w w' ∧ ∀ k, k < w.heap.size → ¬ O k → ¬ lO D' lp sa' k := by
 obtain ⟨D', sa', sc', h1, h2, h3⟩ := h
 exact ⟨D', sa', sc', h1, h2, fun k hk hn ho => by rcases h3 k ho with h4 | h4; exact hn h4; omega⟩
end
end
section
open Go.RowKit Go.Sort
open Go.Maps
open Crc Frm
theorem lgLay_few (g : Lg) (t : St) (x : Int) : (lgLay g t x).2.2.segs.length ≤ g.segs.length + 1 := by
 unfold lgLay
 dsimp only
 split
 · simp
 split <;> simp
theorem lgRestore_few (t : St) : (lgRestore t).2.2.segs.length ≤ 41 := by
 have h1 := lgFind_len t (mLoad t).1 ⟨[], 0⟩
 have h2 := mLoad_len t
 simp only [List.length_nil] at h1
 unfold lgRestore
 dsimp only
 split
 · split
   · show (lgFind t (mLoad t).1 ⟨[], 0⟩).1.segs.length ≤ 41
     omega
   have h3 := lgLay_few (lgFind t (mLoad t).1 ⟨[], 0⟩).1 (lgClean (lgFind t (mLoad t).1 ⟨[], 0⟩).1 t).2 0
   omega
 show (lgFind t (mLoad t).1 ⟨[], 0⟩).1.segs.length ≤ 41
 omega
theorem lgOpen_few {size : Int} {t : St} {g : Lg} (h : (lgOpen size t).2.2 = some g) : g.segs.length ≤ 41 ∧ (lgOpen size t).1 = 0 := by
 have hr := lgRestore_few t
 unfold lgOpen at h ⊢
 dsimp only at h ⊢
 split at h
 · cases h
 rename_i hs
 rw [if_neg hs]
 split at h
 · cases h
 rename_i h1
 rw [if_neg h1]
 injection h with h
 subst h
 exact ⟨hr, rfl⟩
theorem LK.outB_ {w0 w w' : World} {dp lp size : Nat} {g : Lg} {t : St} {D O : Nat → Prop} {sa : Option Addr} {sc : Nat} (h : LK w0 w dp lp size g t D sa sc) (hb : But O w w') (hO : ∀ k, O k → ¬ lO D lp sa k ∧ w0.heap.size ≤ k) : LK w0 w' dp lp size g t D sa sc :=
 ⟨h.dk.out_ hb (fun k hk => ⟨fun hd => (hO k hk).1 (.inl hd), (hO k hk).2⟩), h.at_.but hb (fun hk => (hO _ hk).1 (.inr (.inl rfl))) (fun k o e hk => (hO _ hk).1 (.inr (.inr ⟨o, e⟩))), h.base, h.own, fun k o e => by
  obtain ⟨h1, h2, h3, h4⟩ := h.far k o e
  exact ⟨h1, h2, h3, Nat.lt_of_lt_of_le h4 hb.size⟩⟩
theorem RK.out_ {w0 w w' : World} {rp : Nat} {u : St} {E O : Nat → Prop} (h : RK w0 w rp u E) (hb : But O w w') (hO : ∀ k, O k → ¬ E k ∧ w0.heap.size ≤ k) : RK w0 w' rp u E :=
 h.but hb (fun k he ho => (hO k ho).1 he) (fun k ho => (hO k ho).2)
theorem RLK.out_ {w0 w w' : World} {rp qp size : Nat} {h : Lg} {u : St} {E O : Nat → Prop} {sb : Option Addr} {sd : Nat} (k : RLK w0 w rp qp size h u E sb sd) (hb : But O w w') (hO : ∀ k, O k → ¬ rlO E qp sb k ∧ w0.heap.size ≤ k) : RLK w0 w' rp qp size h u E sb sd :=
 ⟨k.rk.out_ hb (fun j hj => ⟨fun hd => (hO j hj).1 (.inl hd), (hO j hj).2⟩), k.at_.but hb (fun hk => (hO _ hk).1 (.inr (.inl rfl))) (fun j o e hk => (hO _ hk).1 (.inr (.inr ⟨o, e⟩))), k.base, k.own, fun j o e => by
  obtain ⟨h1, h2, h3, h4⟩ := k.far j o e
  exact ⟨h1, h2, h3, Nat.lt_of_lt_of_le h4 hb.size⟩⟩
structure LP (w0 w : World) (dp rp lp qp size : Nat) (g h : Lg) (t u : St) (D : Nat → Prop) (sa : Option Addr) (sc : Nat) (E : Nat → Prop) (sb : Option Addr) (sd : Nat) : Prop where
 lk : LK w0 w dp lp size g t D sa sc
 rk : RLK w0 w rp qp size h u E sb sd
 no : ∀ k, lO D lp sa k → ¬ rlO E qp sb k
section
variable {w0 w w' : World} {dp rp lp qp size : Nat} {g h g' h' : Lg} {t u t' u' : St} {D E : Nat → Prop} {sa sb : Option Addr} {sc sd : Nat}
def One6 (w0 : World) (dp rp : Nat) (size : Int) (u : St) (P : Nat → Prop) (r : Int × St × Option Lg) (e : Ending) (w' : World) : Prop :=
 match r.2.2 with
 | none => e = .returned (.tuple #[.pointer none, .int .i64 r.1]) ∧ ∃ O', DP w0 w' dp rp r.2.1 u O' P
 | some g => ∃ lp D sa sc n, size = ((n : Nat) : Int) ∧ 64 ≤ n ∧ n ≤ 65536 ∧ g.segs.length ≤ 41 ∧ r.1 = 0 ∧ e = .returned (.tuple #[.pointer (some ⟨lp, 0, none⟩), .int .i64 0]) ∧ LK w0 w' dp lp n g r.2.1 D sa sc ∧ RK w0 w' rp u P ∧ ∀ k, lO D lp sa k → ¬ P k
theorem DP.open_ {O P : Nat → Prop} (h : DP w0 w dp rp t u O P) (hL : Laid w0) (size : Int) :
 Calls Tryz.prog 9 #[.pointer (some ⟨dp, 0, none⟩), .int .i64 size] w (One6 w0 dp rp size u P (lgOpen size t)) := by
 by_cases hs : size < 64 ∨ 65536 < size
 · refine (lgopen_arg dp size hs w).mono fun e w' hh => ?_
   obtain ⟨rfl, rfl⟩ := hh
   have he : lgOpen size t = (1, t, none) := by unfold lgOpen; rw [if_pos hs]
   rw [he]
   exact ⟨rfl, O, h⟩
 obtain ⟨n, rfl⟩ := Int.eq_ofNat_of_zero_le (show 0 ≤ size by omega)
 refine (lgopen_any h.dk hL (by omega) (by omega)).mono fun e w' hh => ?_
 have hfew := fun g (hg : (lgOpen (n : Int) t).2.2 = some g) => lgOpen_few hg
 unfold OpenL at hh
 unfold One6
 generalize lgOpen (n : Int) t = r at *
 obtain ⟨r1, r2, r3⟩ := r
 cases r3 with
 | none =>
  obtain ⟨h1, h2⟩ := hh
  obtain ⟨O', h3, _⟩ := h.one h2
  exact ⟨h1, O', h3⟩
 | some g =>
  obtain ⟨lp, D', sa, sc, h1, h2, h3, h4, h5⟩ := hh
  obtain ⟨f1, f2⟩ := hfew g rfl
  exact ⟨lp, D', sa, sc, n, rfl, by omega, by omega, f1, f2, h1, h2, h.rk.but h3 (fun k hp ho => h.no k ho hp) h.dk.base, fun k hk hp => by
   rcases h5 k hk with h6 | h6
   · exact h.no k h6 hp
   have := h.rk.lt k hp; omega⟩
theorem DP.ropen {O P : Nat → Prop} (h : DP w0 w dp rp t u O P) (size : Int) (hn : (lgOpen size u).2.2 = none) :
 Calls Tryz.prog 10 #[.pointer (some ⟨rp, 0, none⟩), .int .i64 size] w fun e w' => e = .returned (.tuple #[.pointer none, .int .i64 (lgOpen size u).1]) ∧ ∃ P', DP w0 w' dp rp t (lgOpen size u).2.1 O P' := by
 by_cases hs : size < 64 ∨ 65536 < size
 · refine (rlopen_arg h.rk size hs).mono fun e w' hh => ?_
   obtain ⟨rfl, rfl⟩ := hh
   have he : lgOpen size u = (1, u, none) := by unfold lgOpen; rw [if_pos hs]
   rw [he]
   exact ⟨rfl, P, h⟩
 obtain ⟨n, rfl⟩ := Int.eq_ofNat_of_zero_le (show 0 ≤ size by omega)
 refine (rlopen_any h.rk (by omega) (by omega)).mono fun e w' hh => ?_
 unfold ROpenL at hh
 generalize lgOpen (n : Int) u = r at *
 obtain ⟨r1, r2, r3⟩ := r
 subst hn
 obtain ⟨h1, h2⟩ := hh
 obtain ⟨P', h3, _⟩ := h.two h2
 exact ⟨h1, P', h3⟩
theorem LK.ropen {n : Nat} {P : Nat → Prop} (k : LK w0 w dp lp n g t D sa sc) (hr : RK w0 w rp u P) (hno : ∀ k, lO D lp sa k → ¬ P k) (h64 : 64 ≤ n) (h65 : n ≤ 65536) {s : Int} (hz : s = (n : Int)) {g2 : Lg} (hn : (lgOpen s u).2.2 = some g2) :
 Calls Tryz.prog 10 #[.pointer (some ⟨rp, 0, none⟩), .int .i64 s] w fun e w' => ∃ qp E sb sd, e = .returned (.tuple #[.pointer (some ⟨qp, 0, none⟩), .int .i64 0]) ∧ LP w0 w' dp rp lp qp n g g2 t (lgOpen s u).2.1 D sa sc E sb sd := by
 subst hz
 refine (rlopen_any hr h64 h65).mono fun e w' hh => ?_
 unfold ROpenL at hh
 generalize lgOpen (n : Int) u = r at *
 obtain ⟨r1, r2, r3⟩ := r
 subst hn
 obtain ⟨qp, E, sb, sd, h1, h2, h3, h4, h5⟩ := hh
 exact ⟨qp, E, sb, sd, h1, ⟨k.outB_ h3 (fun j hj => ⟨fun h6 => hno j h6 hj, hr.base j hj⟩), h2, fun j hj hr2 => by
  rcases h5 j hr2 with h6 | h6
  · exact hno j hj h6
  have := k.lt j hj; omega⟩⟩
end
end
section
open Go.RowKit Go.Sort Go.Maps
open Crc Frm
open Sgn
def hn0 : List UInt8 := [115, 48, 48, 48, 48, 48, 48, 48, 48, 48, 48]
def hn2 : List UInt8 := [115, 48, 48, 48, 48, 48, 48, 48, 48, 48, 50]
def hs0 : St := ⟨.map [], 4000, -1, 0⟩
def hz : List Nat := List.replicate 29 0
def hs1 : St := (lgOpen 64 hs0).2.1
theorem hh1 : lgOpen 64 hs0 = (0, hs1, some ⟨[0], 0⟩) := by kernel_rfl
def hs2 : St := (lgAppend 64 ⟨[0], 0⟩ hs1 1 hz).2.1
theorem hh2 : lgAppend 64 ⟨[0], 0⟩ hs1 1 hz = ((0, 0), hs2, ⟨[0], 1⟩) := by kernel_rfl
def hs3 : St := (lgAppend 64 ⟨[0], 1⟩ hs2 2 [120]).2.1
theorem hh3 : lgAppend 64 ⟨[0], 1⟩ hs2 2 [120] = ((1, 0), hs3, ⟨[0], 2⟩) := by kernel_rfl
def hs4 : St := (lgAppend 64 ⟨[0], 2⟩ hs3 3 hz).2.1
theorem hh4 : lgAppend 64 ⟨[0], 2⟩ hs3 3 hz = ((2, 0), hs4, ⟨[0, 2], 3⟩) := by kernel_rfl
theorem hh5 : lgAppend 64 ⟨[0, 2], 3⟩ hs4 0 [] = ((0, 1), hs4, ⟨[0, 2], 3⟩) := by kernel_rfl
def hs6 : St := (lgSync ⟨[0, 2], 3⟩ hs4).2
theorem hh6 : lgSync ⟨[0, 2], 3⟩ hs4 = (0, hs6) := by kernel_rfl
def hs7 : St := (lgAppend 64 ⟨[0, 2], 3⟩ hs6 4 [122]).2.1
theorem hh7 : lgAppend 64 ⟨[0, 2], 3⟩ hs6 4 [122] = ((3, 0), hs7, ⟨[0, 2], 4⟩) := by kernel_rfl
theorem hh8 : strKeys hs7.D = [mfL, hn0, hn2] := by kernel_rfl
def hs9 : St := (lgOpen 64 (hs7.crash [0, 0, 5])).2.1
theorem hh9 : lgOpen 64 (hs7.crash [0, 0, 5]) = (0, hs9, some ⟨[0, 2], 3⟩) := by kernel_rfl
theorem hh10 : lgFrames ⟨[0, 2], 3⟩ hs9 = [⟨1, 0, hz⟩, ⟨2, 1, [120]⟩, ⟨3, 2, hz⟩] := by kernel_rfl
def hs11 : St := (lgRetain ⟨[0, 2], 3⟩ hs9 2).2.1
theorem hh11 : lgRetain ⟨[0, 2], 3⟩ hs9 2 = (0, hs11, ⟨[2], 3⟩) := by kernel_rfl
theorem hh12 : lgFrames ⟨[2], 3⟩ hs11 = [⟨3, 2, hz⟩] := by kernel_rfl
theorem hh13 : strKeys hs11.D = [mfL, hn2] := by kernel_rfl
end
section
open Go.RowKit Go.Sort Go.Maps
open Crc Frm
open Sgn
attribute [local go_sem] Oper.semAt_some
theorem Sl.out6 {w w' : World} {O : Nat → Prop} {a : Option Addr} {n c : Nat} {bs : List Nat} (h : Sl w w.heap.size a n c bs) (hf : ∀ k o, a = some ⟨k, o, none⟩ → ¬ O k) (hb : But O w w') : Sl w' w'.heap.size a n c bs :=
 h.same_ hb.size (fun hp b o e => by
  obtain ⟨b', o', e', hlt, _⟩ := h.at_ hp
  rw [e] at e'
  cases e'
  exact hb.block b hlt (hf b o e))
theorem lit_row6 (w : World) (l : List Int) (hm : l.length ≤ maxLen) : Row (w.alloc (.cells ((l.map fun x => Value.int .i64 x).toArray) 2)) (w.alloc (.cells ((l.map fun x => Value.int .i64 x).toArray) 2)).heap.size (some ⟨w.heap.size, 0, none⟩) l.length l.length 1 (intsC l) :=
 Row.new (heap_alloc_new w _) (fun j hj => by
  have hj' : j < l.length := by omega
  rw [List.getElem?_toArray, List.getElem?_map, List.getElem?_eq_getElem hj']
  simp only [intsC, List.getD_eq_getElem?_getD, List.getElem?_eq_getElem hj']
  rfl) hm
theorem OpenL.some_ {w0 w : World} {dp size : Nat} {D : Nat → Prop} {x : Int} {t : St} {g : Lg} {e : Ending} {w' : World} (h : OpenL w0 w dp size D (x, t, some g) e w') :
 ∃ lp D' sa sc, e = .returned (.tuple #[.pointer (some ⟨lp, 0, none⟩), .int .i64 0]) ∧ LK w0 w' dp lp size g t D' sa sc ∧ But D w w' ∧ w.heap.size ≤ lp ∧ ∀ k, lO D' lp sa k → D k ∨ w.heap.size ≤ k := h
theorem head6_any (w0 : World) (hL : Laid w0) : Calls Tryz.prog 5 #[] w0 fun e w' => e = .returned (.bool true) ∧ Below w0.heap.size w0 w' := by
 have N1 := Qh (DK.new 4000 (by decide) w0)
 have kc := fun (w : World) (C : Array Value) (n c : Nat) => Lib.run_convert_bytes_const (P := Tryz.prog) w 38 5 C n c Tryz.underlying38 Tryz.underlying5
 obtain ⟨i8, hi8, hz0, hz1, hz2⟩ := info_parts info_u8
 go_enter Tryz.func5, Tryz.ntmps5
 go_wp2_with fail
 refine N1.out.mono ?_
 rintro e w1 ⟨dp, O1, rfl, hk, _, _⟩
 have K : Hid (DK w0 w1 dp hs0 O1) := Qh hk
 clear hk N1
 have C := lgopen_any K.out hL (size := 64) (by decide) (by decide)
 rw [show lgOpen ((64 : Nat) : Int) hs0 = (0, hs1, some ⟨[0], 0⟩) from hh1] at C
 have HC := Qh C
 clear C
 go_wp2_with fail
 refine HC.out.mono ?_
 rintro e w2 hO
 obtain ⟨lp, D, sa, sc, rfl, hk, _, _, _⟩ := hO.some_
 have K := Qh hk
 clear hk HC
 go_wp2_with (at_make; refine wpList_make_full _ rfl (.const (.int .i64 29)) (.const (.int .i64 29)) 38 rfl w2.heap.size 5 i8 (.int .u8 0) 1 Tryz.underlying38 hi8 hz0 hz1 .i64 .i64 _ _ 29 rfl rfl rfl rfl (by rw [hz2]; omega) (by unfold maxLen; omega) Qn ?_; intro w3 hown hg)
 have hown1 := OwnB.made hown
 have hB3 : Below w2.heap.size w2 w3 := (Below.refl _ w2).grown hg Qn (fun k hk => by cases hk)
 obtain ⟨ab, cb, hv, hsb, hab⟩ := hown1.sl_base (fun c hc => by rw [List.eq_of_mem_replicate hc]; decide)
 rw [show (List.replicate 29 0).length = 29 from rfl] at hv hsb
 injection hv with hv1 hv2 hv3
 rw [← hv1, ← hv3] at hsb
 obtain ⟨q, hq⟩ : ∃ q, q = w2.heap.size := ⟨_, rfl⟩
 rw [← hq] at hsb ⊢
 have X : Hid (Sl w3 w3.heap.size (some ⟨q, 0, none⟩) 29 29 hz ∧ ¬ lO D lp sa q ∧ q < w3.heap.size) := Qh ⟨hsb, fun ho => by have := K.out.lt _ ho; omega, by
  obtain ⟨b, o, e, hlt, _⟩ := hsb.at_ (by omega)
  cases e
  exact hlt⟩
 have K := Qh (K.out.on hB3)
 clear hown hg hown1 hB3 hv1 hv2 hv3 hsb hab hq
 have C := lgappend_any K.out (by simp) hL 1 hz (some ⟨q, 0, none⟩) 29 (X.out.1) (by decide)
 rw [hh2] at C
 have HC := Qh C
 clear C
 go_wp2_with fail
 refine HC.out.mono ?_
 rintro e w4 ⟨rfl, hmv⟩
 obtain ⟨D, sa, sc, hk, hb, hf⟩ := hmv.far
 have X := Qh (Qa (X.out.1.out6 (fun k o e => by cases e; exact X.out.2.1) hb) (Qa (hf q X.out.2.2 X.out.2.1) (Nat.lt_of_lt_of_le X.out.2.2 hb.size)))
 have K := Qh hk
 clear hmv hk hb hf HC
 have hbl := (Below.refl w4.heap.size w4).alloc Qn (.cells #[.int .u8 120] 5 (1, 2))
 have C := lgappend_any (K.out.on hbl) (by simp) hL 2 [120] (some ⟨w4.heap.size, 0, none⟩) 1 (Sl.new (heap_alloc_new w4 _) (by rfl) (by decide) 1 rfl (by decide)) (by decide)
 have X := Qh (Qa (X.out.1.same_ hbl.size (fun _ b o e => by cases e; exact hbl.block q X.out.2.2)) (Qa X.out.2.1 (Nat.lt_of_lt_of_le X.out.2.2 hbl.size)))
 rw [hh3] at C
 have HC := Qh C
 clear C hbl
 go_wp2_with fail
 refine HC.out.mono ?_
 rintro e w5 ⟨rfl, hmv⟩
 obtain ⟨D, sa, sc, hk, hb, hf⟩ := hmv.far
 have X := Qh (Qa (X.out.1.out6 (fun k o e => by cases e; exact X.out.2.1) hb) (Qa (hf q X.out.2.2 X.out.2.1) (Nat.lt_of_lt_of_le X.out.2.2 hb.size)))
 have K := Qh hk
 clear hmv hk hb hf HC
 have C := lgappend_any K.out (by simp) hL 3 hz (some ⟨q, 0, none⟩) 29 (X.out.1) (by decide)
 rw [hh4] at C
 have HC := Qh C
 clear C
 go_wp2_with fail
 refine HC.out.mono ?_
 rintro e w6 ⟨rfl, hmv⟩
 obtain ⟨D, sa, sc, hk, hb, hf⟩ := hmv.far
 have X := Qh (Qa (X.out.1.out6 (fun k o e => by cases e; exact X.out.2.1) hb) (Qa (hf q X.out.2.2 X.out.2.1) (Nat.lt_of_lt_of_le X.out.2.2 hb.size)))
 have K := Qh hk
 clear hmv hk hb hf HC
 have C := lgappend_any K.out (by simp) hL 0 [] none 0 (Sl.nil_) (by decide)
 rw [hh5] at C
 have HC := Qh C
 clear C
 go_wp2_with fail
 refine HC.out.mono ?_
 rintro e w7 ⟨rfl, hmv⟩
 obtain ⟨D, sa, sc, hk, hb, hf⟩ := hmv.far
 have X := Qh (Qa (X.out.1.out6 (fun k o e => by cases e; exact X.out.2.1) hb) (Qa (hf q X.out.2.2 X.out.2.1) (Nat.lt_of_lt_of_le X.out.2.2 hb.size)))
 have K := Qh hk
 clear hmv hk hb hf HC
 have C := lsync_any K.out (by simp) hL
 rw [hh6] at C
 have HC := Qh C
 clear C
 go_wp2_with fail
 refine HC.out.mono ?_
 rintro e w8 ⟨rfl, hmv⟩
 obtain ⟨D, sa, sc, hk, hb, hf⟩ := hmv.far
 have X := Qh (Qa (X.out.1.out6 (fun k o e => by cases e; exact X.out.2.1) hb) (Qa (hf q X.out.2.2 X.out.2.1) (Nat.lt_of_lt_of_le X.out.2.2 hb.size)))
 have K := Qh hk
 clear hmv hk hb hf HC
 have hbl := (Below.refl w8.heap.size w8).alloc Qn (.cells #[.int .u8 122] 5 (1, 2))
 have C := lgappend_any (K.out.on hbl) (by simp) hL 4 [122] (some ⟨w8.heap.size, 0, none⟩) 1 (Sl.new (heap_alloc_new w8 _) (by rfl) (by decide) 1 rfl (by decide)) (by decide)
 have X := Qh (Qa (X.out.1.same_ hbl.size (fun _ b o e => by cases e; exact hbl.block q X.out.2.2)) (Qa X.out.2.1 (Nat.lt_of_lt_of_le X.out.2.2 hbl.size)))
 rw [hh7] at C
 have HC := Qh C
 clear C hbl
 go_wp2_with fail
 refine HC.out.mono ?_
 rintro e w9 ⟨rfl, hmv⟩
 obtain ⟨D, sa, sc, hk, hb, hf⟩ := hmv.far
 have X := Qh (Qa (X.out.1.out6 (fun k o e => by cases e; exact X.out.2.1) hb) (Qa (hf q X.out.2.2 X.out.2.1) (Nat.lt_of_lt_of_le X.out.2.2 hb.size)))
 have K := Qh hk
 clear hmv hk hb hf HC
 clear X
 have LS := K.out.dk.list
 rw [hh8] at LS
 have LS := Qh LS
 go_wp2_with fail
 refine LS.out.mono ?_
 rintro e w10 hN
 obtain ⟨gn, cn, rfl, hrn, hgn, hbn⟩ := NewNames.out hN
 have NR : Hid (Row w10 w10.heap.size (some ⟨gn, 0, none⟩) 3 cn 1 (strC [mfL, hn0, hn2]) ∧ ¬ lO D lp sa gn ∧ gn < w10.heap.size) := Qh ⟨hrn, fun ho => by have := K.out.lt _ ho; omega, by obtain ⟨b, o, e, hlt, _⟩ := hrn.at_ (by decide); cases e; exact hlt⟩
 have K := Qh (K.out.on hbn)
 clear hN hrn hgn hbn LS
 have hbl := (Below.refl w10.heap.size w10).alloc Qn (.cells #[.int .i64 0, .int .i64 0, .int .i64 5] 3)
 have C := (K.out.dk.on hbl).crash [0, 0, 5] (some ⟨w10.heap.size, 0, none⟩) 3 3 (Row.new (heap_alloc_new w10 _) (fun j hj => by (match j, hj with | 0, _ => rfl | 1, _ => rfl | 2, _ => rfl)) (by decide)) rfl (fun _ k o e hd => by cases e; have := K.out.dk.lt _ hd; omega)
 have NR := Qh (Qa (NR.out.1.on9 hbl) (Qa NR.out.2.1 (Nat.lt_of_lt_of_le NR.out.2.2 hbl.size)))
 have HC := Qh C
 clear C hbl
 go_wp2_with fail
 refine HC.out.mono ?_
 rintro e w11 ⟨rfl, hmv⟩
 obtain ⟨O2, k2, b2, f2⟩ := hmv.far
 have NR := Qh (Qa (NR.out.1.but b2 (fun _ k o e hd => by cases e; exact NR.out.2.1 (.inl hd))) (Qa (f2 gn NR.out.2.2 (fun hd => NR.out.2.1 (.inl hd))) (Nat.lt_of_lt_of_le NR.out.2.2 b2.size)))
 have KD := Qh k2
 clear hmv k2 b2 f2 HC K
 have C := lgopen_any KD.out hL (size := 64) (by decide) (by decide)
 rw [show lgOpen ((64 : Nat) : Int) (hs7.crash [0, 0, 5]) = (0, hs9, some ⟨[0, 2], 3⟩) from hh9] at C
 have HC := Qh C
 clear C
 go_wp2_with fail
 refine HC.out.mono ?_
 rintro e w12 hO2
 obtain ⟨lq, D, sa, sc, rfl, hk, hb, hge, hf⟩ := hO2.some_
 have NR := Qh (Qa (NR.out.1.but hb (fun _ k o e hd => by cases e; exact NR.out.2.1 hd)) (Qa (show ¬ lO D lq sa gn from fun ho => by rcases hf _ ho with h1 | h1; exact NR.out.2.1 h1; have := NR.out.2.2; omega) (Nat.lt_of_lt_of_le NR.out.2.2 hb.size)))
 have K := Qh hk
 clear hk hb hge hf hO2 HC KD
 have C := frames_got K.out hL (by decide) hh10
 have HC := Qh C
 clear C
 go_wp2_with fail
 refine HC.out.mono ?_
 rintro e w13 ⟨af, cf, rfl, hF, hb⟩
 have F : Hid (FrF w13 w12.heap.size w13.heap.size af 3 cf [⟨1, 0, hz⟩, ⟨2, 1, [120]⟩, ⟨3, 2, hz⟩] ∧ ∀ k, w12.heap.size ≤ k → k < w13.heap.size → ¬ lO D lq sa k) := Qh ⟨hF, fun k h1 h2 ho => by have := K.out.lt k ho; omega⟩
 have NR := Qh (Qa (NR.out.1.on9 hb) (Qa NR.out.2.1 (Nat.lt_of_lt_of_le NR.out.2.2 hb.size)))
 have K := Qh (K.out.on hb)
 clear hF hb HC
 have C := retain_any K.out hL (by simp) (by decide) 2
 rw [hh11] at C
 have HC := Qh C
 clear C
 go_wp2_with fail
 refine HC.out.mono ?_
 rintro e w14 ⟨rfl, hmv⟩
 obtain ⟨D, sa, sc, hk, hb, hf⟩ := hmv.far
 have F := Qh (F.out.1.but hb F.out.2)
 have NR := Qh (Qa (NR.out.1.but hb (fun _ k o e hd => by cases e; exact NR.out.2.1 hd)) (Nat.lt_of_lt_of_le NR.out.2.2 hb.size))
 have K := Qh hk
 clear hmv hk hb hf HC
 have hb := (Below.refl w14.heap.size w14).alloc Qn (.cells #[.string ⟨#[109, 97, 110, 105, 102, 101, 115, 116]⟩, .string ⟨#[115, 48, 48, 48, 48, 48, 48, 48, 48, 48, 48]⟩, .string ⟨#[115, 48, 48, 48, 48, 48, 48, 48, 48, 48, 50]⟩] 9)
 have SS := Qh (sameStr_any [mfL, hn0, hn2] (some ⟨gn, 0, none⟩) (some ⟨w14.heap.size, 0, none⟩) cn 3 _ (NR.out.1.on9 hb) (Row.new (heap_alloc_new w14 _) (fun j hj => by (match j, hj with | 0, _ => rfl | 1, _ => rfl | 2, _ => rfl)) (by decide)))
 have K := Qh (K.out.on hb)
 have F := Qh (F.out.on hb)
 clear hb NR
 go_wp2_with fail
 refine SS.out.mono ?_
 rintro e w15 ⟨rfl, hb⟩
 have K := Qh (K.out.on hb)
 have F := Qh (F.out.on hb)
 clear hb SS
 obtain ⟨fb, fo, rfl, _, _, hfc⟩ := F.out.at_ (by decide)
 obtain ⟨_, _, _, fc1, _⟩ := hfc 2 _ rfl
 clear hfc F
 simp only at fc1
 have NX := Qh (lgnext_any K.out)
 go_wp2_with fail
 refine NX.out.mono ?_
 rintro e w16 ⟨rfl, rfl⟩
 clear NX
 have SG := Qh (segments_any K.out (by decide))
 go_wp2_with fail
 refine SG.out.mono ?_
 rintro e w17 ⟨v, rfl, ho, hb⟩
 obtain ⟨ag, cg, rfl, hr, _⟩ := OwnV.out_ ho
 have K := Qh (K.out.on hb)
 have HR := Qh hr
 clear ho hb hr SG fc1
 have hb := (Below.refl w17.heap.size w17).alloc Qn (.cells #[.int .i64 2] 2)
 have SM := Qh (rsame_any [2] [2] ag (some ⟨w17.heap.size, 0, none⟩) 1 1 cg 1 _ (HR.out.on9 hb) (lit_row6 w17 [2] (by decide)) rfl rfl)
 have K := Qh (K.out.on hb)
 clear hb HR
 go_wp2_with fail
 refine SM.out.mono ?_
 rintro e w18 ⟨rfl, hb⟩
 have K := Qh (K.out.on hb)
 clear hb SM
 have C := frames_got K.out hL (by decide) hh12
 have HC := Qh C
 clear C
 go_wp2_with fail
 refine HC.out.mono ?_
 rintro e w19 ⟨ae, ce, rfl, _, hb⟩
 have K := Qh (K.out.on hb)
 clear hb HC
 have LS := K.out.dk.list
 rw [hh13] at LS
 have LS := Qh LS
 go_wp2_with fail
 refine LS.out.mono ?_
 rintro e w20 hN
 obtain ⟨gm, cm, rfl, hrm, _, hbm⟩ := NewNames.out hN
 have K := Qh (K.out.on hbm)
 have hb := (Below.refl w20.heap.size w20).alloc Qn (.cells #[.string ⟨#[109, 97, 110, 105, 102, 101, 115, 116]⟩, .string ⟨#[115, 48, 48, 48, 48, 48, 48, 48, 48, 48, 50]⟩] 9)
 have SS := Qh (sameStr_any [mfL, hn2] (some ⟨gm, 0, none⟩) (some ⟨w20.heap.size, 0, none⟩) cm 2 _ (hrm.on9 hb) (Row.new (heap_alloc_new w20 _) (fun j hj => by (match j, hj with | 0, _ => rfl | 1, _ => rfl)) (by decide)))
 have K := Qh (K.out.on hb)
 clear hb hN hrm hbm LS
 go_wp2_with fail
 refine SS.out.mono ?_
 rintro e w21 ⟨rfl, hb⟩
 have K := Qh (K.out.on hb)
 clear hb SS
 go_wp2
 go_ret
 exact ⟨rfl, K.out.dk.below⟩
end
end Go.Proofs.YtamblmoedommfaaGreatDoor

/- The document's log: Append. The document's log: Segments. The document's log: Retain. Mathematics of Swap on a disk: what is there behind it, and . Mathematics of Swap on a disk: with room for it, it is done. The log on a disk, plain mathematics: segments in a chain, w. The log on a disk, plain mathematics: what a disk's calls le. The document's operations of a log; a crash and Open on both. The log on a disk, plain mathematics: Retain loses whole seg. The log on a disk, plain mathematics: Open behind a crash gi. What every call of a log keeps, whatever the disk had: the l. A call of both logs, one behind the other: what both leave, . -/
import Derived.Test.YtamblmoedommfaaGreatDoorSqa
import Derived.Test.YtamblmoedommfaaGreatDoorSqd
import Derived.Test.YtamblmoedommfaaGreatDoorSqe
import Derived.Test.YtamblmoedommfaaGreatDoorSqg
import Derived.Test.YtamblmoedommfaaGreatDoorSqj
import Derived.Test.YtamblmoedommfaaGreatDoorSqk
namespace Go.Proofs.YtamblmoedommfaaGreatDoor
set_option maxRecDepth 100000
set_option maxHeartbeats 40000000
set_option linter.unusedVariables false
set_option linter.unusedSimpArgs false
set_option linter.unusedSectionVars false
section
open Go.RowKit Go.Sort Go.Maps
open Crc Frm
open Sgn
attribute [local go_sem] Oper.semAt_some
section
variable {w0 w : World} {rp lp size : Nat} {g : Lg} {t : St} {D : Nat → Prop} {sa : Option Addr} {sc : Nat}
theorem rlappend_any (h : RLK w0 w rp lp size g t D sa sc) (hne : g.segs ≠ []) (hlen : g.segs.length ≤ 1000) (kind : Int) (body : List Nat) (a : Option Addr) (c : Nat) (hs : Sl w w.heap.size a body.length c body) (hsize : size ≤ 1000000000)
 (hfr : decide (g.segs.getLastD 0 < g.next) = decide (12 < (t.bytes (lgLast g)).length)) :
 Calls Tryz.prog 48 #[.pointer (some ⟨lp, 0, none⟩), .int .i64 kind, .slice a body.length c] w fun e w' =>
  e = .returned (.tuple #[.int .i64 (lgAppend size g t kind body).1.1, .int .i64 (lgAppend size g t kind body).1.2]) ∧ RLv w0 w rp lp size (rlO D lp sa) (lgAppend size g t kind body).2.2 (lgAppend size g t kind body).2.1 w' := by
 have c3 := h.at_.c3
 obtain ⟨wa, hwa⟩ : ∃ wa, wa = w.alloc (.cells #[.int .i64 kind, .int .i64 g.next, .slice a body.length c] 69) := ⟨_, rfl⟩
 have hb1 : Below w.heap.size w wa := by rw [hwa]; exact Qb.alloc Qn _
 have hfr0 : wa.heap[w.heap.size]? = some (.cells #[.int .i64 kind, .int .i64 g.next, .slice a body.length c] 69 (0, 0)) := by
  rw [hwa]; exact heap_alloc_new _ _
 have hsw := (hs.below hb1 Qn).more hb1.size
 obtain ⟨f, hf⟩ : ∃ f : Fr, f = ⟨kind, g.next, body⟩ := ⟨_, rfl⟩
 have rt := rright_any f kind g.next body.length (by rw [hf]) (by rw [hf]) (by rw [hf]) a c wa
 rw [hwa] at rt
 have hA : Hid (lgAppend size g t kind body = if ¬ f.right then ((0, 1), t, g) else if (lgRoom size g t (put f).length).1 ≠ 0 then ((0, (lgRoom size g t (put f).length).1), (lgRoom size g t (put f).length).2.1, (lgRoom size g t (put f).length).2.2) else
  if ((lgRoom size g t (put f).length).2.1.write (lgLast (lgRoom size g t (put f).length).2.2) (put f)).1 ≠ 0 then ((0, ((lgRoom size g t (put f).length).2.1.write (lgLast (lgRoom size g t (put f).length).2.2) (put f)).1), ((lgRoom size g t (put f).length).2.1.write (lgLast (lgRoom size g t (put f).length).2.2) (put f)).2, (lgRoom size g t (put f).length).2.2)
  else ((g.next, 0), ((lgRoom size g t (put f).length).2.1.write (lgLast (lgRoom size g t (put f).length).2.2) (put f)).2, { (lgRoom size g t (put f).length).2.2 with next := g.next + 1 })) := by rw [hf]; rfl
 have HA := Qh (Qa hb1 (Qa hfr0 (Qa hsw hf)))
 have H := Qh h
 have HN := Qh (Qa hne (Qa hlen hfr))
 have hlpw := h.at_.lt
 clear hb1 hfr0 hsw h hne hs hf hlen hfr
 by_cases hr : f.right
 · rw [decide_eq_true hr] at rt
   have RT := Qh rt
   clear rt
   go_enter Tryz.func48, Tryz.ntmps48
   go_wp2_with fail
   refine RT.out.mono ?_
   rintro e w1 ⟨rfl, hb1⟩
   rw [← hwa] at hb1
   have hB1 : Below w.heap.size w w1 := HA.out.1.trans (hb1.mono HA.out.1.size)
   have fr1 := (hb1.block _ (lt_of_heap HA.out.2.1)).trans HA.out.2.1
   have u0 := (cell_of_row w1 _ 0 _ _ _ fr1).trans rfl
   have u1 := (cell_of_row w1 _ 1 _ _ _ fr1).trans rfl
   have u2 := (cell_of_row w1 _ 2 _ _ _ fr1).trans rfl
   have hs1 := (HA.out.2.2.1.below hb1 Qn).more hb1.size
   have pt : Calls Tryz.prog 98 #[.agg #[.int .i64 kind, .int .i64 g.next, .slice a body.length c]] w1 fun e w' => ∃ v, e = .returned v ∧ OwnB w' w1.heap.size 5 v (put f) ∧ Below w1.heap.size w1 w' := by
    rw [HA.out.2.2.2]
    exact rput_any ⟨kind, g.next, body⟩ a c w1 hs1
   have PT := Qh pt
   have hpb : ∀ x ∈ put f, x < 256 := by
    intro x hx
    unfold put at hx
    rw [if_pos hr] at hx
    exact raw_byte f (by rw [HA.out.2.2.2]; exact hs1.byte) x hx
   have hpl : (put f).length = f.body.length + 11 := by unfold put; rw [if_pos hr, raw_len]
   have hr2 := hr
   unfold Fr.right at hr2
   have hfn : f.seq = g.next := by rw [HA.out.2.2.2]
   have HB := Qh (Qa hB1 (Qa fr1 hpb))
   have HP := Qh (Qa hpl (Qa hr2 hfn))
   have hA2 := Qh (hA.out.trans (if_neg (fun h => h hr)))
   clear pt hB1 fr1 hs1 hpb hb1 RT hpl hr2 hfn hA hr c3 hwa
   go_wp2_with fail
   refine PT.out.mono ?_
   rintro e w2 ⟨v, rfl, hv, hb2⟩
   obtain ⟨va, vc, rfl, hvs, hvb⟩ := hv.sl_base HB.out.2.2
   obtain ⟨b, hbe⟩ : ∃ b, b = put f := ⟨_, rfl⟩
   rw [← hbe] at hvs hA2 ⊢
   have hpl : b.length = f.body.length + 11 := by rw [hbe]; exact HP.out.1
   have hbl : b.length ≤ 1811 := by have := HP.out.2.1; omega
   have hb0 : 0 < b.length := by omega
   have B2 := Qh (HB.out.1.trans (hb2.mono HB.out.1.size))
   have FR2 := Qh ((hb2.block _ (lt_of_heap HB.out.2.1)).trans HB.out.2.1)
   have K2 := Qh (H.out.on B2.out)
   have VS := Qh (Qa hvs (fun k o e => Nat.le_trans HB.out.1.size (hvb k o e) : ∀ k o, va = some ⟨k, o, none⟩ → w.heap.size ≤ k))
   have c0 := K2.out.at_.c0
   have LA := Qh (fun x (hx : Below w2.heap.size w2 x) => rlast_any (K2.out.at_.on hx) HN.out.1)
   have RD := Qh (fun x (hx : Below w2.heap.size w2 x) => (K2.out.on hx).rk.read ⟨(lgLast g).toArray⟩)
   have hl0 := K2.out.at_.lt
   have hby := Qh (fat_byte H.out.rk.good (lgLast g))
   have hql := bytes_le H.out.rk.good (lgLast g)
   have hfu : Hid (lgFull size g t b.length = (decide (12 < (t.bytes (lgLast g)).length) && decide (size < (t.bytes (lgLast g)).length + b.length))) := by show _ = _; rw [← HN.out.2.2]; rfl
   have hrm : Hid (lgRoom size g t b.length = if lgFull size g t b.length = false then (0, t, g) else if 40 ≤ g.segs.length then (5, t, g) else if (t.sync (lgLast g)).1 ≠ 0 then ((t.sync (lgLast g)).1, (t.sync (lgLast g)).2, g) else lgLay g (t.sync (lgLast g)).2 g.next) := rfl
   clear hv hbe hpl PT hvs hvb hb2 u0 u1 u2
   go_upto_region 5 with fail
   refine wp_region_held_drew (S := fun x => x.cell? ⟨lp, 0, none⟩ = some (.pointer (some ⟨rp, 0, none⟩))) (by kernel_rfl) c0 (fun hHeld => ?_)
   refine qi 0 (by assumption) ?_
   iterate 5 (refine qk rfl (by kernel_rfl) (fun _ _ _ h => h) (by intro w hSw; (try dsimp only at hSw); go_simp; all_goals with_reducible rfl) (by (try simp only [Act.put, lz]); rfl) ?_)
   refine qo ?_
   refine qr 5 rfl (by kernel_rfl) (fun K hK => ?_)
   rw [if_pos (by rfl)]
   go_simp
   go_at_call 96
   refine (LA.out _ (Below.drew Qb)).mono ?_
   rintro e w5 ⟨rfl, hb5⟩
   have B5 : Below w2.heap.size w2 w5 := below_drew_of hb5
   clear hb5
   have c05 := (B5.cell (p := ⟨lp, 0, none⟩) hl0).trans c0
   refine hK.out _ _ ?_ (fun hHeld => ?_)
   · exact c05
   clear hK K
   try simp only [Act.put, lz]
   refine qr 6 rfl (by kernel_rfl) (fun K hK => ?_)
   rw [if_pos (by rfl)]
   go_simp
   go_at_call 51
   refine (RD.out _ B5).mono ?_
   rintro e w3 hN
   change NewBytes w5 (t.bytes (lgLast g)) (fat t.D (lgLast g)).isSome _ _ at hN
   obtain ⟨a3, n3, rfl, _, b3⟩ := hN
   generalize (fat t.D (lgLast g)).isSome = is at *
   generalize (t.bytes (lgLast g)).length = q at *
   have B3 := Qh (B5.trans (b3.mono B5.size))
   refine hK.out _ _ ?_ (fun hHeld => ?_)
   · exact (B3.out.cell (p := ⟨lp, 0, none⟩) hl0).trans c0
   clear hK K
   try simp only [Act.put, lz]
   refine qi 7 (by assumption) ?_
   iterate 5 (refine qk rfl (by kernel_rfl) (fun _ _ _ h => h) (by intro w hSw; (try dsimp only at hSw); go_simp; all_goals with_reducible rfl) (by (try simp only [Act.put, lz]); rfl) ?_)
   refine qo ?_
   refine wpAnyH_done (by kernel_rfl) ?_ _
   clear hHeld B5 b3 c05 c0 LA RD hby hl0
   have BW := Qh (B2.out.trans (B3.out.mono B2.out.size))
   have K3 := Qh (K2.out.on B3.out)
   have V3 : Hid (Sl w3 w3.heap.size va b.length vc b ∧ Far (rlO D lp sa) va b.length) := ⟨(VS.out.1.below B3.out Qn).more B3.out.size, fun _ k o e hO => by have := VS.out.2 k o e; have := H.out.lt k hO; omega⟩
   have FR3 := Qh ((B3.out.block _ (lt_of_heap FR2.out)).trans FR2.out)
   have c13 := K3.out.at_.c1
   clear VS FR2 K2 B2 B3
   by_cases h12 : 12 < q
   · have d12 : decide ((12 : Int) < (q : Int)) = true := by simp; omega
     by_cases hsq : size < q + b.length
     · have dsq : decide ((size : Int) < (q : Int) + (b.length : Int)) = true := by simp; omega
       have hF : lgFull size g t b.length = true := by rw [hfu.out]; simp [h12, hsq]
       have hRM := Qh (hrm.out.trans (if_neg (by rw [hF]; decide)))
       clear hF hfu hrm h12 hsq
       obtain ⟨m, hm⟩ : ∃ m, m = g.segs.length := ⟨_, rfl⟩
       have c23 := K3.out.at_.c2
       rw [← hm] at c23
       have HM := Qh hm
       clear hm
       by_cases h40 : 40 ≤ m
       · have d40 : decide ((40 : Int) ≤ (m : Int)) = true := by simp; omega
         have hres : Hid (lgAppend size g t kind body = ((0, 5), t, g)) := by show _ = _; rw [hA2.out, hRM.out, if_pos (show 40 ≤ g.segs.length by rw [← HM.out]; exact h40)]; exact if_pos (by simp)
         have h40' : (40 : Int) ≤ (m : Int) := by omega
         clear hA2 hRM h40
         go_wp2
         go_ret2
         rw [hres.out]
         exact ⟨rfl, RLv.then (But.of_below BW.out) (fun _ hk => .inl hk) (K3.out.still Qb)⟩
       have d40 : decide ((40 : Int) ≤ (m : Int)) = false := by simp; omega
       have h40' : (m : Int) < 40 := by omega
       have hRM2 := Qh (hRM.out.trans (if_neg (by have := HM.out; omega)))
       have c0y := K3.out.at_.c0
       have hly := K3.out.at_.lt
       have LY := Qh (fun x (hx : Below w3.heap.size w3 x) => rlast_any (K3.out.at_.on hx) HN.out.1)
       have SY := Qh (fun x (hx : Below w3.heap.size w3 x) => (K3.out.on hx).rk.sync ⟨(lgLast g).toArray⟩)
       clear hRM h40
       go_upto_region 9 with fail
       refine wp_region_held_drew (S := fun x => x.cell? ⟨lp, 0, none⟩ = some (.pointer (some ⟨rp, 0, none⟩))) (by kernel_rfl) c0y (fun hHeld => ?_)
       refine qi 0 (by assumption) ?_
       iterate 5 (refine qk rfl (by kernel_rfl) (fun _ _ _ h => h) (by intro w hSw; (try dsimp only at hSw); go_simp; all_goals with_reducible rfl) (by (try simp only [Act.put, lz]); rfl) ?_)
       refine qo ?_
       refine qr 5 rfl (by kernel_rfl) (fun K hK => ?_)
       rw [if_pos (by rfl)]
       go_simp
       go_at_call 96
       refine (LY.out _ (Below.drew Qb)).mono ?_
       rintro e w8 ⟨rfl, hb8⟩
       have B8 : Below w3.heap.size w3 w8 := below_drew_of hb8
       clear hb8
       refine hK.out _ _ ?_ (fun hHeld => ?_)
       · exact (B8.cell (p := ⟨lp, 0, none⟩) hly).trans c0y
       clear hK K
       try simp only [Act.put, lz]
       refine qr 6 rfl (by kernel_rfl) (fun K hK => ?_)
       rw [if_pos (by rfl)]
       go_simp
       go_at_call 63
       refine (SY.out _ B8).mono ?_
       rintro e w9 ⟨rfl, hm9⟩
       change Mr w0 w8 rp D (t.sync (lgLast g)).2 w9 at hm9
       change Hid (lgRoom size g t b.length = if (t.sync (lgLast g)).1 ≠ 0 then ((t.sync (lgLast g)).1, (t.sync (lgLast g)).2, g) else lgLay g (t.sync (lgLast g)).2 g.next) at hRM2
       have J1 := Qh (RLv.then (But.of_below (O := rlO D lp sa) B8) (fun _ hk => .inl hk) ((K3.out.on B8).mv hm9))
       have c09 : w9.cell? ⟨lp, 0, none⟩ = some (.pointer (some ⟨rp, 0, none⟩)) := by
        obtain ⟨_, k9, b9, o9⟩ := hm9
        exact ((K3.out.on B8).but k9 b9 o9).at_.c0
       refine hK.out _ _ ?_ (fun hHeld => ?_)
       · exact c09
       clear hK K
       try simp only [Act.put, lz]
       refine qi 7 (by assumption) ?_
       refine qk rfl (by kernel_rfl) (fun _ _ _ h => h) (by intro w hSw; (try dsimp only at hSw); go_simp; all_goals with_reducible rfl) (by (try simp only [Act.put, lz]); rfl) ?_
       refine qo ?_
       refine wpAnyH_done (by kernel_rfl) ?_ _
       clear hHeld B8 hm9 c09 c0y c23 c13 LY SY
       change Hid (RLv w0 w3 rp lp size (rlO D lp sa) g (t.sync (lgLast g)).2 w9) at J1
       generalize hsy : t.sync (lgLast g) = s at *
       clear hsy
       by_cases hs0 : s.1 = 0
       · have hsb : (s.1 != 0) = false := by simp [hs0]
         have hRM3 := Qh (hRM2.out.trans (if_neg (by simp [hs0])))
         obtain ⟨Dy, say, scy, ky, by_, oy⟩ := J1.out
         have ly := rllay_any ky g.next HN.out.2.1
         have HGN := Qh (lgLay_next g s.2 g.next)
         have HGE := Qh (lgLay_ne HN.out.1 s.2 g.next)
         have hRM4 := hRM3.out
         obtain ⟨L, hL⟩ : ∃ L, L = lgLay g s.2 g.next := ⟨_, rfl⟩
         rw [← hL] at ly HGN HGE hRM4
         have hRM := Qh hRM4
         have LY := Qh ly
         have BY := Qh by_
         have OY := Qh oy
         have c3y := ky.at_.c3
         clear hL ly hRM4 hRM3 hRM2 ky by_ oy J1 hs0
         go_wp2_with fail
         refine LY.out.mono ?_
         rintro e wl ⟨rfl, hm⟩
         have J := Qh (RLv.then BY.out OY.out hm)
         clear hm LY BY OY c3y
         by_cases hl0 : L.1 = 0
         · have hlb : (L.1 != 0) = false := by simp [hl0]
           have HX : Hid (lgAppend size g t kind body = if (L.2.1.write (lgLast L.2.2) b).1 ≠ 0 then ((0, (L.2.1.write (lgLast L.2.2) b).1), (L.2.1.write (lgLast L.2.2) b).2, L.2.2) else ((g.next, 0), (L.2.1.write (lgLast L.2.2) b).2, { L.2.2 with next := g.next + 1 })) := by show _ = _; rw [hA2.out, hRM.out]; exact if_neg (by simp [hl0])
           clear hRM hA2 hl0
           obtain ⟨D1, sa1, sc1, k1, b1, o1⟩ := J.out
           have sx := Sl.mv (O := rlO D lp sa) (O' := rlO D1 lp sa1) V3.out b1 (fun k hk hn ho => by rcases o1 k ho with h4 | h4; exact hn h4; omega)
           have K1 := Qh k1
           have B1 := Qh b1
           have O1 := Qh o1
           have SX := Qh sx
           have nfp : ¬ rlO D lp sa w.heap.size := fun hO => by have := H.out.lt _ hO; omega
           have FX := Qh ((b1.block _ (lt_of_heap FR3.out) nfp).trans FR3.out)
           have NFP : Hid (¬ rlO D1 lp sa1 w.heap.size) := fun hO => by rcases o1 _ hO with h4 | h4; exact nfp h4; have := lt_of_heap FR3.out; omega
           have c0x := k1.at_.c0
           have hlx := k1.at_.lt
           have LX := Qh (fun x (hx : Below wl.heap.size wl x) => rlast_any (K1.out.at_.on hx) HGE.out)
           have hsz := nmS_size (L.2.2.segs.getLastD 0)
           change ByteArray.size ⟨(lgLast L.2.2).toArray⟩ ≤ 11 at hsz
           have WR := Qh (fun x (hx : Below wl.heap.size wl x) => (K1.out.on hx).rk.write ⟨(lgLast L.2.2).toArray⟩ (by unfold maxLen; omega) va b.length vc b ((SX.out.1.below hx Qn).more hx.size) (by omega) (fun hp k o e hd => SX.out.2 hp k o e (.inl hd)))
           clear k1 b1 o1 sx nfp J
           go_upto_region 15 with fail
           refine wp_region_held_drew (S := fun x => x.cell? ⟨lp, 0, none⟩ = some (.pointer (some ⟨rp, 0, none⟩))) (by kernel_rfl) c0x (fun hHeld => ?_)
           refine qi 0 (by assumption) ?_
           iterate 5 (refine qk rfl (by kernel_rfl) (fun _ _ _ h => h) (by intro w hSw; (try dsimp only at hSw); go_simp; all_goals with_reducible rfl) (by (try simp only [Act.put, lz]); rfl) ?_)
           refine qo (qi 6 (by assumption) ?_)
           refine qk rfl (by kernel_rfl) (fun _ _ _ h => h) (by intro w hSw; (try dsimp only at hSw); go_simp; all_goals with_reducible rfl) (by (try simp only [Act.put, lz]); rfl) ?_
           refine qo ?_
           refine qr 5 rfl (by kernel_rfl) (fun K hK => ?_)
           rw [if_pos (by rfl)]
           go_simp
           go_at_call 96
           refine (LX.out _ (Below.drew Qb)).mono ?_
           rintro e w6 ⟨rfl, hb6⟩
           have B6 : Below wl.heap.size wl w6 := below_drew_of hb6
           clear hb6
           refine hK.out _ _ ?_ (fun hHeld => ?_)
           · exact (B6.cell (p := ⟨lp, 0, none⟩) hlx).trans c0x
           clear hK K
           try simp only [Act.put, lz]
           refine qr 7 rfl (by kernel_rfl) (fun K hK => ?_)
           rw [if_pos (by rfl)]
           go_simp
           go_at_call 66
           refine (WR.out _ B6).mono ?_
           rintro e w7 ⟨rfl, hm⟩
           obtain ⟨D7, k7, b7, o7⟩ := hm
           have K7 := Qh ((K1.out.on B6).but k7 b7 o7)
           have BX := Qh ((But.of_below (O := rlO D1 lp sa1) B6).trans (b7.more (fun q hq => .inl hq)) (fun q hq => .inl hq))
           have OX : Hid (∀ q, rlO D7 lp sa1 q → rlO D1 lp sa1 q ∨ wl.heap.size ≤ q) := fun q hq => by
            rcases hq with hq | hq
            · rcases o7 q hq with h4 | h4
              · exact .inl (.inl h4)
              exact .inr (Nat.le_trans B6.size h4)
            exact .inl (.inr hq)
           refine hK.out _ _ ?_ (fun hHeld => ?_)
           · exact K7.out.at_.c0
           clear hK K
           try simp only [Act.put, lz]
           refine qi 8 (by assumption) ?_
           refine qk rfl (by kernel_rfl) (fun _ _ _ h => h) (by intro w hSw; (try dsimp only at hSw); go_simp; all_goals with_reducible rfl) (by (try simp only [Act.put, lz]); rfl) ?_
           refine qo ?_
           refine wpAnyH_done (by kernel_rfl) ?_ _
           try clear c13
           clear hHeld c0x B6 k7 b7 o7 LX WR
           have F7 := Qh ((BX.out.block _ (lt_of_heap FX.out) NFP.out).trans FX.out)
           have M7 : Hid (RLv w0 w rp lp size (rlO D lp sa) L.2.2 (L.2.1.write (lgLast L.2.2) b).2 w7) := RLv.then (But.of_below BW.out) (fun _ hk => .inl hk) (RLv.then B1.out O1.out ⟨D7, sa1, sc1, K7.out, BX.out, OX.out⟩)
           change Hid (RLK w0 w7 rp lp size L.2.2 (L.2.1.write (lgLast L.2.2) b).2 D7 sa1 sc1) at K7
           generalize (L.2.1.write (lgLast L.2.2) b) = v at *
           by_cases hv0 : v.1 = 0
           · have hvb : (v.1 != 0) = false := by simp [hv0]
             have HY := Qh (HX.out.trans (if_neg (by simp [hv0])))
             have c37 := K7.out.at_.c3
             rw [HGN.out] at c37
             have z37 := K7.out.at_.z 3
             have y1 := (cell_of_row w7 _ 1 _ _ _ F7.out).trans rfl
             have hnx1 : 0 ≤ g.next := by have := HP.out.2.1; have := HP.out.2.2; omega
             have hnx2 : g.next ≤ 1073741824 := by have := HP.out.2.1; have := HP.out.2.2; omega
             clear hv0 HX
             go_wp2_with fail
             go_ret2
             rw [HY.out]
             exact ⟨rfl, M7.out.setNext (g.next + 1)⟩
           have hvb : (v.1 != 0) = true := by simp [hv0]
           have HY := Qh (HX.out.trans (if_pos hv0))
           clear hv0 HX
           go_wp2_with fail
           go_ret2
           rw [HY.out]
           exact ⟨rfl, M7.out⟩
         have hlb : (L.1 != 0) = true := by simp [hl0]
         have hres : Hid (lgAppend size g t kind body = ((0, L.1), L.2.1, L.2.2)) := by show _ = _; rw [hA2.out, hRM.out]; exact if_pos hl0
         clear hRM hA2 hl0
         go_wp2
         go_ret2
         rw [hres.out]
         exact ⟨rfl, RLv.then (But.of_below BW.out) (fun _ hk => .inl hk) J.out⟩
       have hsb : (s.1 != 0) = true := by simp [hs0]
       have hres : Hid (lgAppend size g t kind body = ((0, s.1), s.2, g)) := by show _ = _; rw [hA2.out, hRM2.out, if_pos hs0]; exact if_pos hs0
       clear hRM2 hA2 hs0
       go_wp2
       go_ret2
       rw [hres.out]
       exact ⟨rfl, RLv.then (But.of_below BW.out) (fun _ hk => .inl hk) J1.out⟩
     have dsq : decide ((size : Int) < (q : Int) + (b.length : Int)) = false := by simp; omega
     have hF : lgFull size g t b.length = false := by rw [hfu.out]; simp [hsq]
     have hRM := Qh (hrm.out.trans (if_pos hF))
     clear hF hfu hrm h12 hsq
     have J := Qh (K3.out.still Qb)
     have HX : Hid (lgAppend size g t kind body = if (t.write (lgLast g) b).1 ≠ 0 then ((0, (t.write (lgLast g) b).1), (t.write (lgLast g) b).2, g) else ((g.next, 0), (t.write (lgLast g) b).2, { g with next := g.next + 1 })) := by show _ = _; rw [hA2.out, hRM.out]; exact if_neg (by simp)
     have HGN : Hid (g.next = g.next) := rfl
     have HGE := Qh HN.out.1
     clear hRM hA2 K3
     obtain ⟨D1, sa1, sc1, k1, b1, o1⟩ := J.out
     have sx := Sl.mv (O := rlO D lp sa) (O' := rlO D1 lp sa1) V3.out b1 (fun k hk hn ho => by rcases o1 k ho with h4 | h4; exact hn h4; omega)
     have K1 := Qh k1
     have B1 := Qh b1
     have O1 := Qh o1
     have SX := Qh sx
     have nfp : ¬ rlO D lp sa w.heap.size := fun hO => by have := H.out.lt _ hO; omega
     have FX := Qh ((b1.block _ (lt_of_heap FR3.out) nfp).trans FR3.out)
     have NFP : Hid (¬ rlO D1 lp sa1 w.heap.size) := fun hO => by rcases o1 _ hO with h4 | h4; exact nfp h4; have := lt_of_heap FR3.out; omega
     have c0x := k1.at_.c0
     have hlx := k1.at_.lt
     have LX := Qh (fun x (hx : Below w3.heap.size w3 x) => rlast_any (K1.out.at_.on hx) HGE.out)
     have hsz := nmS_size (g.segs.getLastD 0)
     change ByteArray.size ⟨(lgLast g).toArray⟩ ≤ 11 at hsz
     have WR := Qh (fun x (hx : Below w3.heap.size w3 x) => (K1.out.on hx).rk.write ⟨(lgLast g).toArray⟩ (by unfold maxLen; omega) va b.length vc b ((SX.out.1.below hx Qn).more hx.size) (by omega) (fun hp k o e hd => SX.out.2 hp k o e (.inl hd)))
     clear k1 b1 o1 sx nfp J
     go_upto_region 15 with fail
     refine wp_region_held_drew (S := fun x => x.cell? ⟨lp, 0, none⟩ = some (.pointer (some ⟨rp, 0, none⟩))) (by kernel_rfl) c0x (fun hHeld => ?_)
     refine qi 0 (by assumption) ?_
     iterate 5 (refine qk rfl (by kernel_rfl) (fun _ _ _ h => h) (by intro w hSw; (try dsimp only at hSw); go_simp; all_goals with_reducible rfl) (by (try simp only [Act.put, lz]); rfl) ?_)
     refine qo (qi 6 (by assumption) ?_)
     refine qk rfl (by kernel_rfl) (fun _ _ _ h => h) (by intro w hSw; (try dsimp only at hSw); go_simp; all_goals with_reducible rfl) (by (try simp only [Act.put, lz]); rfl) ?_
     refine qo ?_
     refine qr 5 rfl (by kernel_rfl) (fun K hK => ?_)
     rw [if_pos (by rfl)]
     go_simp
     go_at_call 96
     refine (LX.out _ (Below.drew Qb)).mono ?_
     rintro e w6 ⟨rfl, hb6⟩
     have B6 : Below w3.heap.size w3 w6 := below_drew_of hb6
     clear hb6
     refine hK.out _ _ ?_ (fun hHeld => ?_)
     · exact (B6.cell (p := ⟨lp, 0, none⟩) hlx).trans c0x
     clear hK K
     try simp only [Act.put, lz]
     refine qr 7 rfl (by kernel_rfl) (fun K hK => ?_)
     rw [if_pos (by rfl)]
     go_simp
     go_at_call 66
     refine (WR.out _ B6).mono ?_
     rintro e w7 ⟨rfl, hm⟩
     obtain ⟨D7, k7, b7, o7⟩ := hm
     have K7 := Qh ((K1.out.on B6).but k7 b7 o7)
     have BX := Qh ((But.of_below (O := rlO D1 lp sa1) B6).trans (b7.more (fun q hq => .inl hq)) (fun q hq => .inl hq))
     have OX : Hid (∀ q, rlO D7 lp sa1 q → rlO D1 lp sa1 q ∨ w3.heap.size ≤ q) := fun q hq => by
      rcases hq with hq | hq
      · rcases o7 q hq with h4 | h4
        · exact .inl (.inl h4)
        exact .inr (Nat.le_trans B6.size h4)
      exact .inl (.inr hq)
     refine hK.out _ _ ?_ (fun hHeld => ?_)
     · exact K7.out.at_.c0
     clear hK K
     try simp only [Act.put, lz]
     refine qi 8 (by assumption) ?_
     refine qk rfl (by kernel_rfl) (fun _ _ _ h => h) (by intro w hSw; (try dsimp only at hSw); go_simp; all_goals with_reducible rfl) (by (try simp only [Act.put, lz]); rfl) ?_
     refine qo ?_
     refine wpAnyH_done (by kernel_rfl) ?_ _
     try clear c13
     clear hHeld c0x B6 k7 b7 o7 LX WR
     have F7 := Qh ((BX.out.block _ (lt_of_heap FX.out) NFP.out).trans FX.out)
     have M7 : Hid (RLv w0 w rp lp size (rlO D lp sa) g (t.write (lgLast g) b).2 w7) := RLv.then (But.of_below BW.out) (fun _ hk => .inl hk) (RLv.then B1.out O1.out ⟨D7, sa1, sc1, K7.out, BX.out, OX.out⟩)
     change Hid (RLK w0 w7 rp lp size g (t.write (lgLast g) b).2 D7 sa1 sc1) at K7
     generalize (t.write (lgLast g) b) = v at *
     by_cases hv0 : v.1 = 0
     · have hvb : (v.1 != 0) = false := by simp [hv0]
       have HY := Qh (HX.out.trans (if_neg (by simp [hv0])))
       have c37 := K7.out.at_.c3
       rw [HGN.out] at c37
       have z37 := K7.out.at_.z 3
       have y1 := (cell_of_row w7 _ 1 _ _ _ F7.out).trans rfl
       have hnx1 : 0 ≤ g.next := by have := HP.out.2.1; have := HP.out.2.2; omega
       have hnx2 : g.next ≤ 1073741824 := by have := HP.out.2.1; have := HP.out.2.2; omega
       clear hv0 HX
       go_wp2_with fail
       go_ret2
       rw [HY.out]
       exact ⟨rfl, M7.out.setNext (g.next + 1)⟩
     have hvb : (v.1 != 0) = true := by simp [hv0]
     have HY := Qh (HX.out.trans (if_pos hv0))
     clear hv0 HX
     go_wp2_with fail
     go_ret2
     rw [HY.out]
     exact ⟨rfl, M7.out⟩
   have d12 : decide ((12 : Int) < (q : Int)) = false := by simp; omega
   have hF : lgFull size g t b.length = false := by rw [hfu.out]; simp [h12]
   have hRM := Qh (hrm.out.trans (if_pos hF))
   clear hF hfu hrm h12
   have J := Qh (K3.out.still Qb)
   have HX : Hid (lgAppend size g t kind body = if (t.write (lgLast g) b).1 ≠ 0 then ((0, (t.write (lgLast g) b).1), (t.write (lgLast g) b).2, g) else ((g.next, 0), (t.write (lgLast g) b).2, { g with next := g.next + 1 })) := by show _ = _; rw [hA2.out, hRM.out]; exact if_neg (by simp)
   have HGN : Hid (g.next = g.next) := rfl
   have HGE := Qh HN.out.1
   clear hRM hA2 K3
   obtain ⟨D1, sa1, sc1, k1, b1, o1⟩ := J.out
   have sx := Sl.mv (O := rlO D lp sa) (O' := rlO D1 lp sa1) V3.out b1 (fun k hk hn ho => by rcases o1 k ho with h4 | h4; exact hn h4; omega)
   have K1 := Qh k1
   have B1 := Qh b1
   have O1 := Qh o1
   have SX := Qh sx
   have nfp : ¬ rlO D lp sa w.heap.size := fun hO => by have := H.out.lt _ hO; omega
   have FX := Qh ((b1.block _ (lt_of_heap FR3.out) nfp).trans FR3.out)
   have NFP : Hid (¬ rlO D1 lp sa1 w.heap.size) := fun hO => by rcases o1 _ hO with h4 | h4; exact nfp h4; have := lt_of_heap FR3.out; omega
   have c0x := k1.at_.c0
   have hlx := k1.at_.lt
   have LX := Qh (fun x (hx : Below w3.heap.size w3 x) => rlast_any (K1.out.at_.on hx) HGE.out)
   have hsz := nmS_size (g.segs.getLastD 0)
   change ByteArray.size ⟨(lgLast g).toArray⟩ ≤ 11 at hsz
   have WR := Qh (fun x (hx : Below w3.heap.size w3 x) => (K1.out.on hx).rk.write ⟨(lgLast g).toArray⟩ (by unfold maxLen; omega) va b.length vc b ((SX.out.1.below hx Qn).more hx.size) (by omega) (fun hp k o e hd => SX.out.2 hp k o e (.inl hd)))
   clear k1 b1 o1 sx nfp J
   go_upto_region 15 with fail
   refine wp_region_held_drew (S := fun x => x.cell? ⟨lp, 0, none⟩ = some (.pointer (some ⟨rp, 0, none⟩))) (by kernel_rfl) c0x (fun hHeld => ?_)
   refine qi 0 (by assumption) ?_
   iterate 5 (refine qk rfl (by kernel_rfl) (fun _ _ _ h => h) (by intro w hSw; (try dsimp only at hSw); go_simp; all_goals with_reducible rfl) (by (try simp only [Act.put, lz]); rfl) ?_)
   refine qo (qi 6 (by assumption) ?_)
   refine qk rfl (by kernel_rfl) (fun _ _ _ h => h) (by intro w hSw; (try dsimp only at hSw); go_simp; all_goals with_reducible rfl) (by (try simp only [Act.put, lz]); rfl) ?_
   refine qo ?_
   refine qr 5 rfl (by kernel_rfl) (fun K hK => ?_)
   rw [if_pos (by rfl)]
   go_simp
   go_at_call 96
   refine (LX.out _ (Below.drew Qb)).mono ?_
   rintro e w6 ⟨rfl, hb6⟩
   have B6 : Below w3.heap.size w3 w6 := below_drew_of hb6
   clear hb6
   refine hK.out _ _ ?_ (fun hHeld => ?_)
   · exact (B6.cell (p := ⟨lp, 0, none⟩) hlx).trans c0x
   clear hK K
   try simp only [Act.put, lz]
   refine qr 7 rfl (by kernel_rfl) (fun K hK => ?_)
   rw [if_pos (by rfl)]
   go_simp
   go_at_call 66
   refine (WR.out _ B6).mono ?_
   rintro e w7 ⟨rfl, hm⟩
   obtain ⟨D7, k7, b7, o7⟩ := hm
   have K7 := Qh ((K1.out.on B6).but k7 b7 o7)
   have BX := Qh ((But.of_below (O := rlO D1 lp sa1) B6).trans (b7.more (fun q hq => .inl hq)) (fun q hq => .inl hq))
   have OX : Hid (∀ q, rlO D7 lp sa1 q → rlO D1 lp sa1 q ∨ w3.heap.size ≤ q) := fun q hq => by
    rcases hq with hq | hq
    · rcases o7 q hq with h4 | h4
      · exact .inl (.inl h4)
      exact .inr (Nat.le_trans B6.size h4)
    exact .inl (.inr hq)
   refine hK.out _ _ ?_ (fun hHeld => ?_)
   · exact K7.out.at_.c0
   clear hK K
   try simp only [Act.put, lz]
   refine qi 8 (by assumption) ?_
   refine qk rfl (by kernel_rfl) (fun _ _ _ h => h) (by intro w hSw; (try dsimp only at hSw); go_simp; all_goals with_reducible rfl) (by (try simp only [Act.put, lz]); rfl) ?_
   refine qo ?_
   refine wpAnyH_done (by kernel_rfl) ?_ _
   try clear c13
   clear hHeld c0x B6 k7 b7 o7 LX WR
   have F7 := Qh ((BX.out.block _ (lt_of_heap FX.out) NFP.out).trans FX.out)
   have M7 : Hid (RLv w0 w rp lp size (rlO D lp sa) g (t.write (lgLast g) b).2 w7) := RLv.then (But.of_below BW.out) (fun _ hk => .inl hk) (RLv.then B1.out O1.out ⟨D7, sa1, sc1, K7.out, BX.out, OX.out⟩)
   change Hid (RLK w0 w7 rp lp size g (t.write (lgLast g) b).2 D7 sa1 sc1) at K7
   generalize (t.write (lgLast g) b) = v at *
   by_cases hv0 : v.1 = 0
   · have hvb : (v.1 != 0) = false := by simp [hv0]
     have HY := Qh (HX.out.trans (if_neg (by simp [hv0])))
     have c37 := K7.out.at_.c3
     rw [HGN.out] at c37
     have z37 := K7.out.at_.z 3
     have y1 := (cell_of_row w7 _ 1 _ _ _ F7.out).trans rfl
     have hnx1 : 0 ≤ g.next := by have := HP.out.2.1; have := HP.out.2.2; omega
     have hnx2 : g.next ≤ 1073741824 := by have := HP.out.2.1; have := HP.out.2.2; omega
     clear hv0 HX
     go_wp2_with fail
     go_ret2
     rw [HY.out]
     exact ⟨rfl, M7.out.setNext (g.next + 1)⟩
   have hvb : (v.1 != 0) = true := by simp [hv0]
   have HY := Qh (HX.out.trans (if_pos hv0))
   clear hv0 HX
   go_wp2_with fail
   go_ret2
   rw [HY.out]
   exact ⟨rfl, M7.out⟩
 rw [decide_eq_false hr] at rt
 have RT := Qh rt
 clear rt
 have hres : Hid (lgAppend size g t kind body = ((0, 1), t, g)) := hA.out.trans (if_pos hr)
 clear hA hr
 go_enter Tryz.func48, Tryz.ntmps48
 go_wp2_with fail
 refine RT.out.mono ?_
 rintro e w1 ⟨rfl, hb1⟩
 rw [← hwa] at hb1
 have HB := Qh (HA.out.1.trans (hb1.mono HA.out.1.size))
 clear hb1 RT
 go_wp2
 go_ret2
 rw [hres.out]
 exact ⟨rfl, H.out.still HB.out⟩
end
end
section
open Go.RowKit Go.Sort Go.Maps
open Crc Frm
open Sgn
attribute [local go_sem] Oper.semAt_some
section
variable {w0 w : World} {rp lp size : Nat} {g : Lg} {t : St} {D : Nat → Prop} {sa : Option Addr} {sc : Nat}
theorem rlsegments_any (h : RLK w0 w rp lp size g t D sa sc) (hlen : g.segs.length ≤ 1000) : Calls Tryz.prog 21 #[.pointer (some ⟨lp, 0, none⟩)] w fun e w' => ∃ v, e = .returned v ∧ OwnV w' w.heap.size 2 v (i64V g.segs) ∧ Below w.heap.size w w' := by
 have c2 := h.at_.c2
 have H := Qh h
 have HLN := Qh hlen
 have c2a : (w.alloc (.cells #[] 2)).cell? ⟨lp, 2, none⟩ = some (.slice sa g.segs.length sc) := (((Below.refl w.heap.size w).alloc Qn _).cell (p := ⟨lp, 2, none⟩) h.at_.lt).trans c2
 have HRW := Qh (Qa h.at_.row h.at_.nil_)
 clear h
 go_enter Tryz.func21, Tryz.ntmps21
 go_wp2_with (first
  | (at_builtin; refine wpList_append_ints rfl (.tmp 3) (.tmp 7) 50 rfl w.heap.size _ Tryz.underlying50 info_i64m _ [] rfl (OwnV.lit0 w _ Qn) _ sa g.segs.length sc g.segs rfl (HRW.out.1.below (Qb.alloc Qn _) Qn) rfl HRW.out.2 (by have := HLN.out; simp; omega) (by simp) ?_; intro v3 w3 ho3 hg3 hat3; have hB3 : Below w.heap.size w w3 := ((Below.refl w.heap.size w).alloc Qn _).grown hg3 (by simp) (fun k hk => ((OwnV.lit0 w _ Qn).at_base hk).1); have H3 := Qh (Qa ho3 hB3); clear ho3 hg3 hat3 hB3 c2a)
  | fail)
 go_ret
 exact ⟨_, rfl, H3.out.1, H3.out.2⟩
end
end
section
open Go.RowKit Go.Sort Go.Maps
open Crc Frm
open Sgn
attribute [local go_sem] Oper.semAt_some
theorem while_len (s : Int) : ∀ (l : List Int) (k : Nat), k ≤ l.length → (∀ j, j < k → l.getD j 0 ≤ s) → (k = l.length ∨ s < l.getD k 0) → (l.takeWhile fun x => decide (x ≤ s)).length = k
 | [], k, h, _, _ => by simp at h; simp [h]
 | x :: l, 0, _, _, h => by
  rcases h with h | h
  · simp at h
  have : ¬ x ≤ s := by simpa using h
  simp [List.takeWhile, this]
 | x :: l, k + 1, h, h1, h2 => by
  have hx : x ≤ s := by simpa using h1 0 (by omega)
  have := while_len s l k (by simpa using h) (fun j hj => by simpa using h1 (j + 1) (by omega)) (by simpa using h2)
  simp [List.takeWhile, hx, this]
theorem gone_is {g : Lg} (hne : g.segs ≠ []) (seq : Int) {k : Nat} (hk : k + 1 ≤ g.segs.length) (h1 : ∀ j, j < k → g.segs.getD (j + 1) 0 ≤ seq) (h2 : k + 1 = g.segs.length ∨ seq < g.segs.getD (k + 1) 0) : lgGone g seq = k := by
 unfold lgGone
 cases hs : g.segs with
 | nil => exact absurd hs hne
 | cons x l =>
  rw [hs] at hk h1 h2
  exact while_len seq l k (by simpa using hk) (fun j hj => by simpa using h1 j hj) (by simpa using h2)
structure RLG (w0 W w : World) (O0 : Nat → Prop) (rp lp size : Nat) (g : Lg) (t : St) (D : Nat → Prop) (sa : Option Addr) (sc : Nat) (b o n : Nat) (l : List Int) : Prop where
 k : RLK w0 w rp lp size g t D sa sc
 cells : ∀ j, j < n → w.cell? ⟨b, o + j, none⟩ = some (.int .i64 (l.getD j 0))
 lt : b < w.heap.size
 far : ¬ rlO D lp sa b
 but : But O0 W w
 own : ∀ q, rlO D lp sa q → O0 q ∨ W.heap.size ≤ q
section
variable {w0 W w w' : World} {O0 : Nat → Prop} {rp lp size : Nat} {g : Lg} {t t' : St} {D : Nat → Prop} {sa : Option Addr} {sc b o n : Nat} {l : List Int}
theorem RLG.on (h : RLG w0 W w O0 rp lp size g t D sa sc b o n l) (hb : Below w.heap.size w w') : RLG w0 W w' O0 rp lp size g t D sa sc b o n l :=
 ⟨h.k.on hb, fun j hj => (hb.cell (p := ⟨b, o + j, none⟩) h.lt).trans (h.cells j hj), Nat.lt_of_lt_of_le h.lt hb.size, h.far, h.but.trans (But.of_below (O := fun _ => False) hb) (fun _ hf => hf.elim), h.own⟩
theorem RLG.mv (h : RLG w0 W w O0 rp lp size g t D sa sc b o n l) (hm : Mr w0 w rp D t' w') : ∃ D', RLG w0 W w' O0 rp lp size g t' D' sa sc b o n l := by
 obtain ⟨D', h1, h2, h3⟩ := hm
 have hlO : ∀ q, rlO D' lp sa q → rlO D lp sa q ∨ w.heap.size ≤ q := fun q hq => by
  rcases hq with hq | hq
  · rcases h3 q hq with h4 | h4
    · exact .inl (.inl h4)
    exact .inr h4
  exact .inl (.inr hq)
 refine ⟨D', h.k.but h1 h2 h3, fun j hj => (h2.cell (b := b) (o := o + j) h.lt (fun hd => h.far (.inl hd))).trans (h.cells j hj), Nat.lt_of_lt_of_le h.lt h2.size, fun hq => ?_, h.but.trans h2 (fun q hq => h.own q (.inl hq)), fun q hq => ?_⟩
 · rcases hlO b hq with h4 | h4
   · exact h.far h4
   have := h.lt; omega
 rcases hlO q hq with h4 | h4
 · exact h.own q h4
 exact .inr (Nat.le_trans h.but.size h4)
theorem RLG.end_ (h : RLG w0 W w O0 rp lp size g t D sa sc b o n l) : RLv w0 W rp lp size O0 g t w := ⟨D, sa, sc, h.k, h.but, h.own⟩
end
section
variable {w0 w : World} {rp lp size : Nat} {g : Lg} {t : St} {D : Nat → Prop} {sa : Option Addr} {sc : Nat}
theorem rlretain_any (h : RLK w0 w rp lp size g t D sa sc) (hne : g.segs ≠ []) (hlen : g.segs.length ≤ 1000) (seq : Int) :
 Calls Tryz.prog 44 #[.pointer (some ⟨lp, 0, none⟩), .int .i64 seq] w fun e w' => e = .returned (.int .i64 (lgRetain g t seq).1) ∧ RLv w0 w rp lp size (rlO D lp sa) (lgRetain g t seq).2.2 (lgRetain g t seq).2.1 w' := by
 have hR : Hid (lgRetain g t seq = if lgGone g seq = 0 then (0, t, g) else if (mSwap t (g.segs.drop (lgGone g seq))).1 ≠ 0 then ((mSwap t (g.segs.drop (lgGone g seq))).1, (mSwap t (g.segs.drop (lgGone g seq))).2, g) else
  ((delEach ((g.segs.take (lgGone g seq)).map nm) 0 (mSwap t (g.segs.drop (lgGone g seq))).2).1, (delEach ((g.segs.take (lgGone g seq)).map nm) 0 (mSwap t (g.segs.drop (lgGone g seq))).2).2, { g with segs := g.segs.drop (lgGone g seq) })) := rfl
 have hlp : 0 < g.segs.length := List.length_pos_iff.2 hne
 have c2 := h.at_.c2
 have c0 := h.at_.c0
 have H := Qh (Qa h hne)
 obtain ⟨b, o, hsa, hb, hc⟩ := h.at_.row.at_ hlp
 subst hsa
 have hrm := h.at_.row.max
 have hrl := h.at_.row.le
 unfold maxLen at hrm
 have HC := Qh hc
 have GI := Qh (fun k => gone_is (k := k) hne seq)
 obtain ⟨m, hm⟩ : ∃ m, m = g.segs.length := ⟨_, rfl⟩
 rw [← hm] at c2 hlp hlen hrl HC GI
 have HM := Qh hm
 clear h hne hc hm
 go_enter Tryz.func44, Tryz.ntmps44
 go_wp2_with fail
 go_loopw [5] (fun i wx => ∃ k : Nat, k + 1 ≤ m ∧ i = .int .i64 (k : Int) ∧ wx = w ∧ ∀ j, j < k → g.segs.getD (j + 1) 0 ≤ seq) (fun i _ => m - (intOf i).toNat)
 case atStart => exact ⟨0, by omega, rfl, rfl, fun j hj => by omega⟩
 case round =>
  obtain ⟨k, hk, rfl, hwx, hle⟩ := hrel
  subst hwx
  have HLE := Qh hle
  have hw1 : IntKind.i64.wrap ((k : Int) + 1) = ((k + 1 : Nat) : Int) := by rw [IntKind.wrap_i64]; omega
  clear hle
  by_cases hlt : k + 1 < m
  · have hlt' : ((k + 1 : Nat) : Int) < (m : Int) := by omega
    have cx := HC.out (k + 1) (by omega)
    change wr.cell? ⟨b, o + (k + 1), none⟩ = some (.int .i64 (g.segs.getD (k + 1) 0)) at cx
    have h10 : (0 : Int) ≤ ((k + 1 : Nat) : Int) := by omega
    obtain ⟨x, hx⟩ : ∃ x, x = g.segs.getD (k + 1) 0 := ⟨_, rfl⟩
    rw [← hx] at cx
    have HX := Qh hx
    have HK := Qh hlt
    clear hx
    by_cases hxs : x ≤ seq
    · have hd : decide (x ≤ seq) = true := by simp [hxs]
      have HXS := Qh hxs
      clear hxs
      go_wp2_with fail
      go_roundw
      case rel => exact ⟨k + 1, HK.out, by go_num, trivial, fun j hj => by
       by_cases hjk : j < k
       · exact HLE.out j hjk
       have : j = k := by omega
       subst this
       rw [← HX.out]
       exact HXS.out⟩
      case measure => simp [intOf]; omega
    have hd : decide (x ≤ seq) = false := by simp [hxs]
    have HG := Qh (GI.out k hk HLE.out (.inr (by rw [← HX.out]; omega)))
    clear hxs
    have hkm : k < m := by omega
    have hres := hR.out
    rw [HG.out] at hres
    by_cases hk0 : k = 0
    · have hb0 : ((k : Int) == 0) = true := by simp [hk0]
      have HRS := Qh (hres.trans (if_pos hk0))
      clear hres hk0
      go_wp2
      go_ret
      rw [HRS.out]
      exact ⟨rfl, H.out.1.still Qb⟩
    have hne0 : ((k : Int) == 0) = false := by simp; omega
    have hres1 := hres.trans (if_neg hk0)
    obtain ⟨st, hst⟩ : ∃ st, st = g.segs.drop k := ⟨_, rfl⟩
    have hstl : st.length = m - k := by rw [hst, List.length_drop, HM.out]
    rw [← hst] at hres1
    have hkt : ∀ x : World, (Instr.slice 50 (.slice (some ⟨b, o, none⟩) m sc) none (some (.int .i64 (k : Int))) none).run Tryz.prog x = .ok (.slice (some ⟨b, o, none⟩) k sc) x := run_cut1_to (P := Tryz.prog) 50 2 Tryz.underlying50 info_i64m (some ⟨b, o, none⟩) m sc k (by omega)
    have hkf : ∀ x : World, (Instr.slice 50 (.slice (some ⟨b, o, none⟩) m sc) (some (.int .i64 (k : Int))) none none).run Tryz.prog x = .ok (.slice (fromA (some ⟨b, o, none⟩) sc k) (m - k) (sc - k)) x := fun x => run_cut1_from (P := Tryz.prog) 50 2 Tryz.underlying50 info_i64m (some ⟨b, o, none⟩) m sc k (by omega) x
    have K2d := Qh (H.out.1.on (Below.drew Qb))
    have hfa : fromA (some ⟨b, o, none⟩) sc k = some ⟨b, o + k, none⟩ := by unfold fromA; rw [if_neg (by omega)]; simp [Addr.add_mid]
    have SW := rswap5_any K2d.out.rk st (fromA (some ⟨b, o, none⟩) sc k) (m - k) (sc - k) (by rw [hst, HM.out]; exact K2d.out.at_.row.from_ (by have := HM.out; omega) rfl) hstl (fun _ q q2 e hd => by rw [hfa] at e; injection e with e; injection e with e; exact (K2d.out.far b o rfl).1 (e ▸ hd))
    obtain ⟨s, hs⟩ : ∃ s, s = mSwap t st := ⟨_, rfl⟩
    rw [← hs] at hres1 SW
    have SW := Qh SW
    have HRS := Qh hres1
    have HST := Qh (Qa hst hstl)
    have HFA := Qh hfa
    have HK0 := Qh hk0
    clear hres hres1 hk0 hst hs hfa hstl
    rename_i SWo
    clear SWo
    go_upto_region 7 with fail
    refine wp_region_held_drew (S := fun x => x.cell? ⟨lp, 0, none⟩ = some (.pointer (some ⟨rp, 0, none⟩)) ∧ x.cell? ⟨lp, 2, none⟩ = some (.slice (some ⟨b, o, none⟩) m sc)) (by kernel_rfl) ⟨c0, c2⟩ (fun hHeld => ?_)
    refine qi 0 (by assumption) ?_
    iterate 10 (refine qk rfl (by kernel_rfl) (fun _ _ _ h => h) (by intro w hSw; (try dsimp only at hSw); go_simp; all_goals with_reducible rfl) (by (try simp only [Act.put, lz]); rfl) ?_)
    refine qo ?_
    refine qr 10 rfl (by kernel_rfl) (fun K hK => ?_)
    rw [if_pos (by rfl)]
    go_simp
    go_at_call 93
    refine SW.out.mono ?_
    rintro e w4 ⟨rfl, hm⟩
    have M := Qh (RLv.then (But.of_below (O := rlO D lp (some ⟨b, o, none⟩)) (Below.drew Qb)) (fun _ hk => .inl hk) (K2d.out.mv hm))
    obtain ⟨D4, k4, b4, o4⟩ := hm
    have K4 := Qh (K2d.out.but k4 b4 o4)
    have B4 := Qh b4
    have O4 := Qh o4
    have c24 := K4.out.at_.c2
    rw [← HM.out] at c24
    clear k4 b4 o4 SW
    refine hK.out _ _ ?_ (fun hHeld => ?_)
    · exact ⟨K4.out.at_.c0, c24⟩
    clear hK K
    try simp only [Act.put, lz]
    refine qi 11 (by assumption) ?_
    refine qk rfl (by kernel_rfl) (fun _ _ _ h => h) (by intro w hSw; (try dsimp only at hSw); go_simp; all_goals with_reducible rfl) (by (try simp only [Act.put, lz]); rfl) ?_
    refine qo ?_
    refine wpAnyH_done (by kernel_rfl) ?_ _
    clear hHeld c0 c2
    by_cases hz : s.1 = 0
    · have hb : (s.1 != 0) = false := by simp [hz]
      have HRZ := Qh (HRS.out.trans (if_neg (by simp [hz])))
      have HZ0 := Qh hz
      obtain ⟨r, hr⟩ : ∃ r, r = delEach ((g.segs.take k).map nm) 0 s.2 := ⟨_, rfl⟩
      have HRZ2 := HRZ.out
      rw [← hr] at HRZ2
      have HZ := Qh HRZ2
      have HR := Qh hr
      have c24a : (w4.alloc (.cells #[] 2)).cell? ⟨lp, 2, none⟩ = some (.slice (some ⟨b, o, none⟩) m sc) := (((Below.refl w4.heap.size w4).alloc Qn _).cell (p := ⟨lp, 2, none⟩) K4.out.at_.lt).trans c24
      have RW4 := Qh (K4.out.at_.row)
      clear HRZ HRZ2 hr hz HRS
      go_wp2_with (first
       | (at_builtin; refine wpList_append_ints rfl (.tmp 55) (.tmp 61) 50 rfl w4.heap.size _ Tryz.underlying50 info_i64m _ [] rfl (OwnV.lit0 w4 _ Qn) _ (fromA (some ⟨b, o, none⟩) sc k) (m - k) (sc - k) st rfl (by rw [HST.out.1, HM.out]; exact Row.from_ (RW4.out.below (Qb.alloc Qn _) Qn) (by have := HM.out; omega) rfl) HST.out.2 (by rw [HFA.out]; intro h; cases h) (by simp; omega) (by simp) ?_; intro v5 w5 ho5 hg5 hat5; rw [List.nil_append] at ho5; have hB5 : Below w4.heap.size w4 w5 := ((Below.refl w4.heap.size w4).alloc Qn _).grown hg5 (by simp) (fun k hk => ((OwnV.lit0 w4 _ Qn).at_base hk).1); obtain ⟨a5, c5, e5, hrow5, _⟩ := OwnV.out_ ho5; subst e5; have H5 := Qh (Qa ho5 (Qa hrow5 hB5)); have c25 := (K4.out.on hB5).at_.c2; have z25 := (K4.out.on hB5).at_.z 2; clear ho5 hg5 hat5 hB5 hrow5 c24a c24)
       | fail)
      clear c25 z25
      have hfar5 := OwnV.far_ H5.out.1
      have hnil5 := OwnV.nil_own H5.out.1
      have hww := H.out.1.rk.below.size
      have hdz := (Below.drew (Below.refl wr.heap.size wr)).size
      have hz4 := B4.out.size
      have hz5 := H5.out.2.2.size
      have hDb := H.out.1.far b o rfl
      have K6 := (K4.out.on H5.out.2.2).setSegs st a5 c5 H5.out.2.1 (fun e => by subst e; exact hnil5 _ _ rfl) (fun q q2 e => ⟨fun hd => by
       have h1 := (hfar5 q q2 e).1
       have h2 := K4.out.rk.lt q hd
       omega, by have := (hfar5 q q2 e).1; have := K4.out.at_.lt; omega, by have := (hfar5 q q2 e).1; omega, (hfar5 q q2 e).2⟩)
      have bA : But (fun q => D q ∨ q = lp) wr (w5.setCell ⟨lp, 2, none⟩ (.slice a5 st.length c5)) := ((((But.of_below (O := fun q => D q ∨ q = lp) (Below.drew (Below.refl wr.heap.size wr))).trans (B4.out.more (fun q hq => .inl hq)) (fun q hq => .inl hq))).trans (But.of_below (O := fun _ => False) H5.out.2.2) (fun _ hf => hf.elim)).trans ((But.refl (fun q => q = lp) w5).setCell (p := ⟨lp, 2, none⟩) (.inl rfl) _) (fun q hq => .inl (.inr hq))
      have hnb : ¬ (D b ∨ b = lp) := fun h => by rcases h with h | h; exact hDb.1 h; exact hDb.2.1 h
      have G6 : Hid (RLG w0 wr (w5.setCell ⟨lp, 2, none⟩ (.slice a5 st.length c5)) (rlO D lp (some ⟨b, o, none⟩)) rp lp size { g with segs := st } s.2 D4 a5 c5 b o k g.segs) := ⟨K6, fun j hj => (bA.cell (b := b) (o := o + j) hDb.2.2.2 hnb).trans (HC.out j (by omega)), Nat.lt_of_lt_of_le hDb.2.2.2 bA.size, fun hq => by
       rcases hq with hq | hq | ⟨q2, hq⟩
       · rcases O4.out b hq with h4 | h4
         · exact hDb.1 h4
         have := hDb.2.2.2; omega
       · exact hDb.2.1 hq
       · have := (hfar5 b q2 hq).1; have := hDb.2.2.2; omega, bA.more (fun q hq => by rcases hq with hq | hq; exact .inl hq; exact .inr (.inl hq)), fun q hq => by
       rcases hq with hq | hq | ⟨q2, hq⟩
       · rcases O4.out q hq with h4 | h4
         · exact .inl (.inl h4)
         exact .inr (by omega)
       · exact .inl (.inr (.inl hq))
       exact .inr (by have := (hfar5 q q2 hq).1; omega)⟩
      obtain ⟨w6, hw6⟩ : ∃ w6, w6 = w5.setCell ⟨lp, 2, none⟩ (.slice a5 st.length c5) := ⟨_, rfl⟩
      rw [← hw6] at G6 ⊢
      clear hw6 bA K6 hnb hfar5 hnil5 hww hdz hz4 hz5 hDb
      go_loopw [7, 8] (fun e i wx => ∃ (j : Nat) (x : Int) (t' : St) (D' : Nat → Prop), j ≤ k ∧ i = .int .i64 (j : Int) ∧ e = .int .i64 x ∧ RLG w0 wr wx (rlO D lp (some ⟨b, o, none⟩)) rp lp size { g with segs := st } t' D' a5 c5 b o k g.segs ∧ delEach (((g.segs.take k).map nm).drop j) x t' = r) (fun _ i _ => k - (intOf i).toNat)
      case atStart => exact ⟨0, s.1, s.2, D4, Nat.zero_le _, rfl, rfl, G6.out, by rw [HR.out, HZ0.out]; rfl⟩
      case round =>
       obtain ⟨j, x9, t9, D9, hj, rfl, rfl, hq, hrun⟩ := hrel
       have Q := Qh hq
       have HRUN := Qh hrun
       clear G6 hq hrun
       by_cases hlt9 : j < k
       · obtain ⟨y, hy⟩ : ∃ y, y = g.segs.getD j 0 := ⟨_, rfl⟩
         have cy := Q.out.cells j hlt9
         rw [← hy] at cy
         have hdrop : ((g.segs.take k).map nm).drop j = nm y :: ((g.segs.take k).map nm).drop (j + 1) := by
          rw [List.drop_eq_getElem_cons (by rw [List.length_map, List.length_take]; have := HM.out; omega), hy, List.getD_eq_getElem?_getD, List.getElem?_eq_getElem (by have := HM.out; omega)]
          simp
         have HD9 : Hid (delEach (((g.segs.take k).map nm).drop (j + 1)) (if x9 = 0 then (t9.delete (nm y)).1 else x9) (t9.delete (nm y)).2 = r) := by
          show _ = _
          rw [← HRUN.out, hdrop]
          rfl
         have hj9 : (j : Int) < (k : Int) := by omega
         have hj0 : (0 : Int) ≤ (j : Int) := by omega
         have NM := Qh (fun q => rsname_any y q)
         have c09 := Q.out.k.at_.c0
         have hb9 := Q.out.lt
         have hl9 := Q.out.k.at_.lt
         have HY := Qh hy
         have HJ := Qh hlt9
         clear hy hdrop HRUN hlt9
         go_upto_region 14 with fail
         refine wp_region_held_drew (S := fun q => q.cell? ⟨lp, 0, none⟩ = some (.pointer (some ⟨rp, 0, none⟩)) ∧ q.cell? ⟨b, o + j, none⟩ = some (.int .i64 y)) (by kernel_rfl) ⟨c09, cy⟩ (fun hHeld => ?_)
         refine qi 0 (by assumption) ?_
         iterate 8 (refine qk rfl (by kernel_rfl) (fun _ _ _ h => h) (by intro w hSw; (try dsimp only at hSw); go_simp; all_goals with_reducible rfl) (by (try simp only [Act.put, lz]); rfl) ?_)
         refine qo ?_
         refine qr 8 rfl (by kernel_rfl) (fun K hK => ?_)
         rw [if_pos (by rfl)]
         go_simp
         go_at_call 56
         refine (NM.out _).mono ?_
         rintro e w8 ⟨rfl, hb8⟩
         have B8 := below_drew_of hb8
         clear hb8
         have c08 := (B8.cell (p := ⟨lp, 0, none⟩) hl9).trans c09
         have cy8 := (B8.cell (p := ⟨b, o + j, none⟩) hb9).trans cy
         have Q8 := Qh (Q.out.on B8)
         refine hK.out _ _ ?_ (fun hHeld => ?_)
         · exact ⟨c08, cy8⟩
         clear hK K
         try simp only [Act.put, lz]
         refine qr 9 rfl (by kernel_rfl) (fun K hK => ?_)
         rw [if_pos (by rfl)]
         go_simp
         go_at_call 65
         refine (Q8.out.k.rk.delete ⟨(nm y).toArray⟩).mono ?_
         rintro e w9 ⟨rfl, hm9⟩
         change Mr w0 w8 rp D9 (t9.delete (nm y)).2 w9 at hm9
         obtain ⟨Da, qa⟩ := Q8.out.mv hm9
         have QA := Qh qa
         have c0a := qa.k.at_.c0
         have cya := (qa.cells j HJ.out).trans (by rw [← HY.out])
         clear hm9 qa
         refine hK.out _ _ ?_ (fun hHeld => ?_)
         · exact ⟨c0a, cya⟩
         clear hK K
         try simp only [Act.put, lz]
         refine qi 10 (by assumption) ?_
         refine qk rfl (by kernel_rfl) (fun _ _ _ h => h) (by intro w hSw; (try dsimp only at hSw); go_simp; all_goals with_reducible rfl) (by (try simp only [Act.put, lz]); rfl) ?_
         refine qo ?_
         refine wpAnyH_done (by kernel_rfl) ?_ _
         clear hHeld c0a cya c08 cy8 c09 cy B8 NM
         change Hid (delEach (((g.segs.take k).map nm).drop (j + 1)) (if x9 = 0 then (t9.delete (nm y)).1 else x9) (t9.delete (nm y)).2 = r) at HD9
         by_cases hx9 : x9 = 0
         · have hbx : (x9 == 0) = true := by simp [hx9]
           have HX9 := Qh hx9
           clear hx9
           go_wp2_with fail
           go_roundw
           case rel => exact ⟨j + 1, (t9.delete (nm y)).1, (t9.delete (nm y)).2, Da, HJ.out, by go_num, rfl, QA.out, by have h9 := HD9.out; rw [if_pos HX9.out] at h9; exact h9⟩
           case measure => have := HJ.out; simp [intOf]; omega
         have hbx : (x9 == 0) = false := by simp [hx9]
         have HX9 := Qh hx9
         clear hx9
         go_wp2_with fail
         go_roundw
         case rel => exact ⟨j + 1, x9, (t9.delete (nm y)).2, Da, HJ.out, by go_num, rfl, QA.out, by have h9 := HD9.out; rw [if_neg HX9.out] at h9; exact h9⟩
         case measure => have := HJ.out; simp [intOf]; omega
       have hjk : j = k := by omega
       have he : ((g.segs.take k).map nm).drop j = [] := List.drop_of_length_le (by rw [List.length_map, List.length_take]; omega)
       have h9 := HRUN.out
       rw [he] at h9
       have HE := Qh (show (x9, t9) = r from h9)
       have hj9 : ¬ (j : Int) < (k : Int) := by omega
       clear h9 he hlt9 HRUN
       go_wp2
       go_ret
       rw [HZ.out, ← HE.out]
       exact ⟨rfl, Q.out.end_⟩
    have hb : (s.1 != 0) = true := by simp [hz]
    have HRZ := Qh (HRS.out.trans (if_pos hz))
    clear hz HRS
    go_wp2
    go_ret
    rw [HRZ.out]
    exact ⟨rfl, M.out⟩
  have hlt' : ¬ ((k + 1 : Nat) : Int) < (m : Int) := by omega
  have HG := Qh (GI.out k hk HLE.out (.inl (by omega)))
  have hkm : k < m := by omega
  have hres := hR.out
  rw [HG.out] at hres
  by_cases hk0 : k = 0
  · have hb0 : ((k : Int) == 0) = true := by simp [hk0]
    have HRS := Qh (hres.trans (if_pos hk0))
    clear hres hk0
    go_wp2
    go_ret
    rw [HRS.out]
    exact ⟨rfl, H.out.1.still Qb⟩
  have hne0 : ((k : Int) == 0) = false := by simp; omega
  have hres1 := hres.trans (if_neg hk0)
  obtain ⟨st, hst⟩ : ∃ st, st = g.segs.drop k := ⟨_, rfl⟩
  have hstl : st.length = m - k := by rw [hst, List.length_drop, HM.out]
  rw [← hst] at hres1
  have hkt : ∀ x : World, (Instr.slice 50 (.slice (some ⟨b, o, none⟩) m sc) none (some (.int .i64 (k : Int))) none).run Tryz.prog x = .ok (.slice (some ⟨b, o, none⟩) k sc) x := run_cut1_to (P := Tryz.prog) 50 2 Tryz.underlying50 info_i64m (some ⟨b, o, none⟩) m sc k (by omega)
  have hkf : ∀ x : World, (Instr.slice 50 (.slice (some ⟨b, o, none⟩) m sc) (some (.int .i64 (k : Int))) none none).run Tryz.prog x = .ok (.slice (fromA (some ⟨b, o, none⟩) sc k) (m - k) (sc - k)) x := fun x => run_cut1_from (P := Tryz.prog) 50 2 Tryz.underlying50 info_i64m (some ⟨b, o, none⟩) m sc k (by omega) x
  have K2d := Qh (H.out.1.on (Below.drew Qb))
  have hfa : fromA (some ⟨b, o, none⟩) sc k = some ⟨b, o + k, none⟩ := by unfold fromA; rw [if_neg (by omega)]; simp [Addr.add_mid]
  have SW := rswap5_any K2d.out.rk st (fromA (some ⟨b, o, none⟩) sc k) (m - k) (sc - k) (by rw [hst, HM.out]; exact K2d.out.at_.row.from_ (by have := HM.out; omega) rfl) hstl (fun _ q q2 e hd => by rw [hfa] at e; injection e with e; injection e with e; exact (K2d.out.far b o rfl).1 (e ▸ hd))
  obtain ⟨s, hs⟩ : ∃ s, s = mSwap t st := ⟨_, rfl⟩
  rw [← hs] at hres1 SW
  have SW := Qh SW
  have HRS := Qh hres1
  have HST := Qh (Qa hst hstl)
  have HFA := Qh hfa
  have HK0 := Qh hk0
  clear hres hres1 hk0 hst hs hfa hstl
  rename_i SWo
  clear SWo
  go_upto_region 7 with fail
  refine wp_region_held_drew (S := fun x => x.cell? ⟨lp, 0, none⟩ = some (.pointer (some ⟨rp, 0, none⟩)) ∧ x.cell? ⟨lp, 2, none⟩ = some (.slice (some ⟨b, o, none⟩) m sc)) (by kernel_rfl) ⟨c0, c2⟩ (fun hHeld => ?_)
  refine qi 0 (by assumption) ?_
  iterate 10 (refine qk rfl (by kernel_rfl) (fun _ _ _ h => h) (by intro w hSw; (try dsimp only at hSw); go_simp; all_goals with_reducible rfl) (by (try simp only [Act.put, lz]); rfl) ?_)
  refine qo ?_
  refine qr 10 rfl (by kernel_rfl) (fun K hK => ?_)
  rw [if_pos (by rfl)]
  go_simp
  go_at_call 93
  refine SW.out.mono ?_
  rintro e w4 ⟨rfl, hm⟩
  have M := Qh (RLv.then (But.of_below (O := rlO D lp (some ⟨b, o, none⟩)) (Below.drew Qb)) (fun _ hk => .inl hk) (K2d.out.mv hm))
  obtain ⟨D4, k4, b4, o4⟩ := hm
  have K4 := Qh (K2d.out.but k4 b4 o4)
  have B4 := Qh b4
  have O4 := Qh o4
  have c24 := K4.out.at_.c2
  rw [← HM.out] at c24
  clear k4 b4 o4 SW
  refine hK.out _ _ ?_ (fun hHeld => ?_)
  · exact ⟨K4.out.at_.c0, c24⟩
  clear hK K
  try simp only [Act.put, lz]
  refine qi 11 (by assumption) ?_
  refine qk rfl (by kernel_rfl) (fun _ _ _ h => h) (by intro w hSw; (try dsimp only at hSw); go_simp; all_goals with_reducible rfl) (by (try simp only [Act.put, lz]); rfl) ?_
  refine qo ?_
  refine wpAnyH_done (by kernel_rfl) ?_ _
  clear hHeld c0 c2
  by_cases hz : s.1 = 0
  · have hb : (s.1 != 0) = false := by simp [hz]
    have HRZ := Qh (HRS.out.trans (if_neg (by simp [hz])))
    have HZ0 := Qh hz
    obtain ⟨r, hr⟩ : ∃ r, r = delEach ((g.segs.take k).map nm) 0 s.2 := ⟨_, rfl⟩
    have HRZ2 := HRZ.out
    rw [← hr] at HRZ2
    have HZ := Qh HRZ2
    have HR := Qh hr
    have c24a : (w4.alloc (.cells #[] 2)).cell? ⟨lp, 2, none⟩ = some (.slice (some ⟨b, o, none⟩) m sc) := (((Below.refl w4.heap.size w4).alloc Qn _).cell (p := ⟨lp, 2, none⟩) K4.out.at_.lt).trans c24
    have RW4 := Qh (K4.out.at_.row)
    clear HRZ HRZ2 hr hz HRS
    go_wp2_with (first
     | (at_builtin; refine wpList_append_ints rfl (.tmp 55) (.tmp 61) 50 rfl w4.heap.size _ Tryz.underlying50 info_i64m _ [] rfl (OwnV.lit0 w4 _ Qn) _ (fromA (some ⟨b, o, none⟩) sc k) (m - k) (sc - k) st rfl (by rw [HST.out.1, HM.out]; exact Row.from_ (RW4.out.below (Qb.alloc Qn _) Qn) (by have := HM.out; omega) rfl) HST.out.2 (by rw [HFA.out]; intro h; cases h) (by simp; omega) (by simp) ?_; intro v5 w5 ho5 hg5 hat5; rw [List.nil_append] at ho5; have hB5 : Below w4.heap.size w4 w5 := ((Below.refl w4.heap.size w4).alloc Qn _).grown hg5 (by simp) (fun k hk => ((OwnV.lit0 w4 _ Qn).at_base hk).1); obtain ⟨a5, c5, e5, hrow5, _⟩ := OwnV.out_ ho5; subst e5; have H5 := Qh (Qa ho5 (Qa hrow5 hB5)); have c25 := (K4.out.on hB5).at_.c2; have z25 := (K4.out.on hB5).at_.z 2; clear ho5 hg5 hat5 hB5 hrow5 c24a c24)
     | fail)
    clear c25 z25
    have hfar5 := OwnV.far_ H5.out.1
    have hnil5 := OwnV.nil_own H5.out.1
    have hww := H.out.1.rk.below.size
    have hdz := (Below.drew (Below.refl wr.heap.size wr)).size
    have hz4 := B4.out.size
    have hz5 := H5.out.2.2.size
    have hDb := H.out.1.far b o rfl
    have K6 := (K4.out.on H5.out.2.2).setSegs st a5 c5 H5.out.2.1 (fun e => by subst e; exact hnil5 _ _ rfl) (fun q q2 e => ⟨fun hd => by
     have h1 := (hfar5 q q2 e).1
     have h2 := K4.out.rk.lt q hd
     omega, by have := (hfar5 q q2 e).1; have := K4.out.at_.lt; omega, by have := (hfar5 q q2 e).1; omega, (hfar5 q q2 e).2⟩)
    have bA : But (fun q => D q ∨ q = lp) wr (w5.setCell ⟨lp, 2, none⟩ (.slice a5 st.length c5)) := ((((But.of_below (O := fun q => D q ∨ q = lp) (Below.drew (Below.refl wr.heap.size wr))).trans (B4.out.more (fun q hq => .inl hq)) (fun q hq => .inl hq))).trans (But.of_below (O := fun _ => False) H5.out.2.2) (fun _ hf => hf.elim)).trans ((But.refl (fun q => q = lp) w5).setCell (p := ⟨lp, 2, none⟩) (.inl rfl) _) (fun q hq => .inl (.inr hq))
    have hnb : ¬ (D b ∨ b = lp) := fun h => by rcases h with h | h; exact hDb.1 h; exact hDb.2.1 h
    have G6 : Hid (RLG w0 wr (w5.setCell ⟨lp, 2, none⟩ (.slice a5 st.length c5)) (rlO D lp (some ⟨b, o, none⟩)) rp lp size { g with segs := st } s.2 D4 a5 c5 b o k g.segs) := ⟨K6, fun j hj => (bA.cell (b := b) (o := o + j) hDb.2.2.2 hnb).trans (HC.out j (by omega)), Nat.lt_of_lt_of_le hDb.2.2.2 bA.size, fun hq => by
     rcases hq with hq | hq | ⟨q2, hq⟩
     · rcases O4.out b hq with h4 | h4
       · exact hDb.1 h4
       have := hDb.2.2.2; omega
     · exact hDb.2.1 hq
     · have := (hfar5 b q2 hq).1; have := hDb.2.2.2; omega, bA.more (fun q hq => by rcases hq with hq | hq; exact .inl hq; exact .inr (.inl hq)), fun q hq => by
     rcases hq with hq | hq | ⟨q2, hq⟩
     · rcases O4.out q hq with h4 | h4
       · exact .inl (.inl h4)
       exact .inr (by omega)
     · exact .inl (.inr (.inl hq))
     exact .inr (by have := (hfar5 q q2 hq).1; omega)⟩
    obtain ⟨w6, hw6⟩ : ∃ w6, w6 = w5.setCell ⟨lp, 2, none⟩ (.slice a5 st.length c5) := ⟨_, rfl⟩
    rw [← hw6] at G6 ⊢
    clear hw6 bA K6 hnb hfar5 hnil5 hww hdz hz4 hz5 hDb
    go_loopw [7, 8] (fun e i wx => ∃ (j : Nat) (x : Int) (t' : St) (D' : Nat → Prop), j ≤ k ∧ i = .int .i64 (j : Int) ∧ e = .int .i64 x ∧ RLG w0 wr wx (rlO D lp (some ⟨b, o, none⟩)) rp lp size { g with segs := st } t' D' a5 c5 b o k g.segs ∧ delEach (((g.segs.take k).map nm).drop j) x t' = r) (fun _ i _ => k - (intOf i).toNat)
    case atStart => exact ⟨0, s.1, s.2, D4, Nat.zero_le _, rfl, rfl, G6.out, by rw [HR.out, HZ0.out]; rfl⟩
    case round =>
     obtain ⟨j, x9, t9, D9, hj, rfl, rfl, hq, hrun⟩ := hrel
     have Q := Qh hq
     have HRUN := Qh hrun
     clear G6 hq hrun
     by_cases hlt9 : j < k
     · obtain ⟨y, hy⟩ : ∃ y, y = g.segs.getD j 0 := ⟨_, rfl⟩
       have cy := Q.out.cells j hlt9
       rw [← hy] at cy
       have hdrop : ((g.segs.take k).map nm).drop j = nm y :: ((g.segs.take k).map nm).drop (j + 1) := by
        rw [List.drop_eq_getElem_cons (by rw [List.length_map, List.length_take]; have := HM.out; omega), hy, List.getD_eq_getElem?_getD, List.getElem?_eq_getElem (by have := HM.out; omega)]
        simp
       have HD9 : Hid (delEach (((g.segs.take k).map nm).drop (j + 1)) (if x9 = 0 then (t9.delete (nm y)).1 else x9) (t9.delete (nm y)).2 = r) := by
        show _ = _
        rw [← HRUN.out, hdrop]
        rfl
       have hj9 : (j : Int) < (k : Int) := by omega
       have hj0 : (0 : Int) ≤ (j : Int) := by omega
       have NM := Qh (fun q => rsname_any y q)
       have c09 := Q.out.k.at_.c0
       have hb9 := Q.out.lt
       have hl9 := Q.out.k.at_.lt
       have HY := Qh hy
       have HJ := Qh hlt9
       clear hy hdrop HRUN hlt9
       go_upto_region 14 with fail
       refine wp_region_held_drew (S := fun q => q.cell? ⟨lp, 0, none⟩ = some (.pointer (some ⟨rp, 0, none⟩)) ∧ q.cell? ⟨b, o + j, none⟩ = some (.int .i64 y)) (by kernel_rfl) ⟨c09, cy⟩ (fun hHeld => ?_)
       refine qi 0 (by assumption) ?_
       iterate 8 (refine qk rfl (by kernel_rfl) (fun _ _ _ h => h) (by intro w hSw; (try dsimp only at hSw); go_simp; all_goals with_reducible rfl) (by (try simp only [Act.put, lz]); rfl) ?_)
       refine qo ?_
       refine qr 8 rfl (by kernel_rfl) (fun K hK => ?_)
       rw [if_pos (by rfl)]
       go_simp
       go_at_call 56
       refine (NM.out _).mono ?_
       rintro e w8 ⟨rfl, hb8⟩
       have B8 := below_drew_of hb8
       clear hb8
       have c08 := (B8.cell (p := ⟨lp, 0, none⟩) hl9).trans c09
       have cy8 := (B8.cell (p := ⟨b, o + j, none⟩) hb9).trans cy
       have Q8 := Qh (Q.out.on B8)
       refine hK.out _ _ ?_ (fun hHeld => ?_)
       · exact ⟨c08, cy8⟩
       clear hK K
       try simp only [Act.put, lz]
       refine qr 9 rfl (by kernel_rfl) (fun K hK => ?_)
       rw [if_pos (by rfl)]
       go_simp
       go_at_call 65
       refine (Q8.out.k.rk.delete ⟨(nm y).toArray⟩).mono ?_
       rintro e w9 ⟨rfl, hm9⟩
       change Mr w0 w8 rp D9 (t9.delete (nm y)).2 w9 at hm9
       obtain ⟨Da, qa⟩ := Q8.out.mv hm9
       have QA := Qh qa
       have c0a := qa.k.at_.c0
       have cya := (qa.cells j HJ.out).trans (by rw [← HY.out])
       clear hm9 qa
       refine hK.out _ _ ?_ (fun hHeld => ?_)
       · exact ⟨c0a, cya⟩
       clear hK K
       try simp only [Act.put, lz]
       refine qi 10 (by assumption) ?_
       refine qk rfl (by kernel_rfl) (fun _ _ _ h => h) (by intro w hSw; (try dsimp only at hSw); go_simp; all_goals with_reducible rfl) (by (try simp only [Act.put, lz]); rfl) ?_
       refine qo ?_
       refine wpAnyH_done (by kernel_rfl) ?_ _
       clear hHeld c0a cya c08 cy8 c09 cy B8 NM
       change Hid (delEach (((g.segs.take k).map nm).drop (j + 1)) (if x9 = 0 then (t9.delete (nm y)).1 else x9) (t9.delete (nm y)).2 = r) at HD9
       by_cases hx9 : x9 = 0
       · have hbx : (x9 == 0) = true := by simp [hx9]
         have HX9 := Qh hx9
         clear hx9
         go_wp2_with fail
         go_roundw
         case rel => exact ⟨j + 1, (t9.delete (nm y)).1, (t9.delete (nm y)).2, Da, HJ.out, by go_num, rfl, QA.out, by have h9 := HD9.out; rw [if_pos HX9.out] at h9; exact h9⟩
         case measure => have := HJ.out; simp [intOf]; omega
       have hbx : (x9 == 0) = false := by simp [hx9]
       have HX9 := Qh hx9
       clear hx9
       go_wp2_with fail
       go_roundw
       case rel => exact ⟨j + 1, x9, (t9.delete (nm y)).2, Da, HJ.out, by go_num, rfl, QA.out, by have h9 := HD9.out; rw [if_neg HX9.out] at h9; exact h9⟩
       case measure => have := HJ.out; simp [intOf]; omega
     have hjk : j = k := by omega
     have he : ((g.segs.take k).map nm).drop j = [] := List.drop_of_length_le (by rw [List.length_map, List.length_take]; omega)
     have h9 := HRUN.out
     rw [he] at h9
     have HE := Qh (show (x9, t9) = r from h9)
     have hj9 : ¬ (j : Int) < (k : Int) := by omega
     clear h9 he hlt9 HRUN
     go_wp2
     go_ret
     rw [HZ.out, ← HE.out]
     exact ⟨rfl, Q.out.end_⟩
  have hb : (s.1 != 0) = true := by simp [hz]
  have HRZ := Qh (HRS.out.trans (if_pos hz))
  clear hz HRS
  go_wp2
  go_ret
  rw [HRZ.out]
  exact ⟨rfl, M.out⟩
end
end
section
open Go.RowKit Go.Sort
open Go.Maps
open Crc Frm
theorem fat_delete_other (t : St) {s s' : List UInt8} (h : s' ≠ s) : fat (t.delete s).2.D s' = fat t.D s' := by
 unfold St.delete
 split
 · rfl
 split
 · rfl
 exact fat_del_other h
theorem fat_sync_other (t : St) {s s' : List UInt8} (h : s' ≠ s) : fat (t.sync s).2.D s' = fat t.D s' := by
 unfold St.sync
 split
 · rfl
 split
 · rfl
 split
 · rfl
 exact fat_put_other h _
theorem fat_write_other (t : St) {s s' : List UInt8} (b : List Nat) (h : s' ≠ s) : fat (t.write s b).2.D s' = fat t.D s' := by
 unfold St.write
 split
 · rfl
 split
 · rfl
 split
 · rfl
 exact fat_put_other h _
theorem isMap_delete {t : St} (h : IsMap t.D) (s : List UInt8) : IsMap (t.delete s).2.D := by
 unfold St.delete
 split
 · exact h
 split
 · exact h
 exact h.del _
theorem isMap_sync {t : St} (h : IsMap t.D) (s : List UInt8) : IsMap (t.sync s).2.D := by
 unfold St.sync
 split
 · exact h
 split
 · exact h
 split
 · exact h
 exact h.put _ _
theorem isMap_write {t : St} (h : IsMap t.D) (s : List UInt8) (b : List Nat) : IsMap (t.write s b).2.D := by
 unfold St.write
 split
 · exact h
 split
 · exact h
 split
 · exact h
 exact h.put _ _
theorem isMap_delNext {t : St} (h : IsMap t.D) : IsMap (delNext t).2.D := by
 unfold delNext
 split
 · exact isMap_delete h _
 exact h
theorem isMap_st {t : St} (h : IsMap t.D) (l : List Int) : ∀ k, k ≤ 3 → IsMap (mSt t l k).D
 | 0, _ => h
 | 1, _ => isMap_delNext h
 | 2, _ => isMap_write (isMap_delNext h) _ _
 | 3, _ => isMap_sync (isMap_write (isMap_delNext h) _ _) _
theorem turn_cases (t : St) (l : List Int) : (∃ k, k < 4 ∧ (∀ j, j < k → mAns t l j = 0) ∧ mAns t l k ≠ 0 ∧ mTurn t l = (mAns t l k, mSt t l (k + 1))) ∨ ((∀ j, j < 4 → mAns t l j = 0) ∧ mTurn t l = (0, mSt t l 4)) := by
 by_cases h0 : mAns t l 0 = 0
 · by_cases h1 : mAns t l 1 = 0
   · by_cases h2 : mAns t l 2 = 0
     · by_cases h3 : mAns t l 3 = 0
       · have hall : ∀ j, j < 4 → mAns t l j = 0 := fun j hj => by match j, hj with | 0, _ => exact h0 | 1, _ => exact h1 | 2, _ => exact h2 | 3, _ => exact h3
         exact .inr ⟨hall, turn_end t l hall⟩
       have hall : ∀ j, j < 3 → mAns t l j = 0 := fun j hj => by match j, hj with | 0, _ => exact h0 | 1, _ => exact h1 | 2, _ => exact h2
       exact .inl ⟨3, by omega, hall, h3, turn_stop t l 3 (by omega) hall h3⟩
     have hall : ∀ j, j < 2 → mAns t l j = 0 := fun j hj => by match j, hj with | 0, _ => exact h0 | 1, _ => exact h1
     exact .inl ⟨2, by omega, hall, h2, turn_stop t l 2 (by omega) hall h2⟩
   have hall : ∀ j, j < 1 → mAns t l j = 0 := fun j hj => by match j, hj with | 0, _ => exact h0
   exact .inl ⟨1, by omega, hall, h1, turn_stop t l 1 (by omega) hall h1⟩
 exact .inl ⟨0, by omega, fun j hj => by omega, h0, turn_stop t l 0 (by omega) (fun j hj => by omega) h0⟩
end
section
open Go.RowKit Go.Sort
open Go.Maps
open Crc Frm
theorem isMap_st4 {t : St} (h : IsMap t.D) (l : List Int) : ∀ k, k ≤ 4 → IsMap (mSt t l k).D
 | 0, _ => h
 | 1, _ => isMap_st h l 1 (by omega)
 | 2, _ => isMap_st h l 2 (by omega)
 | 3, _ => isMap_st h l 3 (by omega)
 | 4, _ => by
  have h3 := isMap_st h l 3 (by omega)
  show IsMap ((mSt t l 3).rename nxL mfL).2.D
  generalize mSt t l 3 = s at *
  unfold St.rename
  split
  · exact h3
  split
  · exact h3
  split
  · exact h3
  exact (h3.del _).put _ _
theorem isMap_clean {t : St} (h : IsMap t.D) (x : Int) : IsMap (mClean x t).D := by
 unfold mClean
 split
 · exact isMap_delete h _
 exact h
theorem turn_map {t : St} (h : IsMap t.D) (l : List Int) : ∃ k, k ≤ 4 ∧ (mTurn t l).2 = mSt t l k := by
 rcases turn_cases t l with ⟨k, hk, _, _, h2⟩ | ⟨_, h2⟩
 · exact ⟨k + 1, by omega, by rw [h2]⟩
 exact ⟨4, by omega, by rw [h2]⟩
theorem isMap_swap {t : St} (h : IsMap t.D) (l : List Int) : IsMap (mSwap t l).2.D := by
 obtain ⟨k, hk, e⟩ := turn_map h l
 unfold mSwap
 split
 · show IsMap (mClean _ _).D
   rw [e]
   exact isMap_clean (isMap_st4 h l k hk) _
 exact h
end
section
open Go.RowKit Go.Sort Go.Maps
open Crc Frm
open Sgn
theorem nm_inj {x y : Int} (hx : 0 ≤ x ∧ x ≤ 1073741824) (hy : 0 ≤ y ∧ y ≤ 1073741824) (h : nm x = nm y) : x = y := by
 have h1 := fst_nm hx.1 hx.2
 rw [h, fst_nm hy.1 hy.2] at h1
 exact (Prod.mk.inj h1).1.symm
def St.fb (t : St) (s : List UInt8) : Option (List Nat) := (fat t.D s).map (·.bs)
theorem St.bytes_fb (t : St) (s : List UInt8) : t.bytes s = (t.fb s).getD [] := by
 unfold St.bytes St.fb
 cases fat t.D s <;> rfl
end
section
open Go.RowKit Go.Sort Go.Maps
open Crc Frm
open Sgn
theorem fb_delete_other (t : St) {s s' : List UInt8} (h : s' ≠ s) : (t.delete s).2.fb s' = t.fb s' := by unfold St.fb; rw [fat_delete_other t h]
theorem fb_write_other (t : St) {s s' : List UInt8} (b : List Nat) (h : s' ≠ s) : (t.write s b).2.fb s' = t.fb s' := by unfold St.fb; rw [fat_write_other t b h]
theorem fb_write_no (t : St) (s s' : List UInt8) (b : List Nat) (h : (t.write s b).1 ≠ 0) : (t.write s b).2.fb s' = t.fb s' := by
 unfold St.write at *
 by_cases h0 : t.fuse = 0
 · rw [if_pos h0]
 rw [if_neg h0] at h ⊢
 by_cases h1 : nmOk s = false
 · rw [if_pos h1]; rfl
 rw [if_neg h1] at h ⊢
 by_cases h2 : fitsB t.D t.room s b.length = false
 · rw [if_pos h2]; rfl
 rw [if_neg h2] at h; exact absurd rfl h
theorem fb_write_yes {t : St} (hm : IsMap t.D) (s : List UInt8) (b : List Nat) (h : (t.write s b).1 = 0) : (t.write s b).2.fb s = some (t.bytes s ++ b) := by
 unfold St.write at *
 by_cases h0 : t.fuse = 0
 · rw [if_pos h0] at h; cases h
 rw [if_neg h0] at h ⊢
 by_cases h1 : nmOk s = false
 · rw [if_pos h1] at h; cases h
 rw [if_neg h1] at h ⊢
 by_cases h2 : fitsB t.D t.room s b.length = false
 · rw [if_pos h2] at h; cases h
 rw [if_neg h2]
 unfold St.fb
 show Option.map _ (fat (t.D.put _ _) s) = _
 rw [fat_put_same hm]
 rfl
theorem fb_sync {t : St} (hm : IsMap t.D) (s s' : List UInt8) : (t.sync s).2.fb s' = t.fb s' := by
 by_cases h : s' = s
 · subst h
   unfold St.sync
   by_cases h0 : t.fuse = 0
   · rw [if_pos h0]
   rw [if_neg h0]
   cases hf : fat t.D s' with
   | none => rfl
   | some f =>
    simp only
    by_cases h1 : 0 < t.fails
    · rw [if_pos h1]; rfl
    rw [if_neg h1]
    unfold St.fb
    show Option.map _ (fat (t.D.put _ _) s') = _
    rw [fat_put_same hm, hf]
    rfl
 unfold St.fb; rw [fat_sync_other t h]
theorem fb_rename_other (t : St) {s tn s' : List UInt8} (h : s' ≠ s) (h' : s' ≠ tn) : (t.rename s tn).2.fb s' = t.fb s' := by
 unfold St.rename
 by_cases h0 : t.fuse = 0
 · rw [if_pos h0]
 rw [if_neg h0]
 by_cases h1 : nmOk tn = false
 · rw [if_pos h1]; rfl
 rw [if_neg h1]
 cases hf : fat t.D s with
 | none => rfl
 | some f =>
  unfold St.fb
  show Option.map _ (fat ((t.D.del _).put _ _) s') = _
  rw [fat_put_other h', fat_del_other h]
theorem fb_drop_other (t : St) {s s' : List UInt8} (h : s' ≠ s) : (t.drop s).2.fb s' = t.fb s' := by
 unfold St.drop
 split
 · exact fb_delete_other t h
 rfl
theorem isMap_drop {t : St} (h : IsMap t.D) (s : List UInt8) : IsMap (t.drop s).2.D := by
 unfold St.drop
 split
 · exact isMap_delete h s
 exact h
theorem thenSt_keep {P : St → Prop} {r : Int × St} {f : St → Int × St} (h1 : P r.2) (h2 : ∀ t, P t → P (f t).2) : P (thenSt r f).2 := by
 unfold thenSt
 split
 · exact h1
 exact h2 _ h1
theorem thenSt_yes {r : Int × St} {f : St → Int × St} (h : (thenSt r f).1 = 0) : r.1 = 0 ∧ thenSt r f = f r.2 ∧ (f r.2).1 = 0 := by
 unfold thenSt at *
 by_cases h0 : r.1 = 0
 · rw [if_neg (by simp [h0])] at h ⊢
   exact ⟨h0, rfl, h⟩
 rw [if_pos h0] at h
 exact absurd h h0
theorem fb_swap_other (t : St) (l : List Int) {s : List UInt8} (h1 : s ≠ mfL) (h2 : s ≠ nxL) : (mSwap t l).2.fb s = t.fb s := by
 have hd : (delNext t).2.fb s = t.fb s := by
  unfold delNext
  split
  · exact fb_delete_other t h2
  rfl
 have hs : ∀ k, (mSt t l k).fb s = t.fb s := by
  have hm : ∀ k, k ≤ 2 → (mSt t l k).fb s = t.fb s := fun k hk => by
   match k, hk with
   | 0, _ => rfl
   | 1, _ => exact hd
   | 2, _ => exact (fb_write_other _ _ h2).trans hd
  have h3 : (mSt t l 3).fb s = t.fb s := (by unfold St.fb; show Option.map _ (fat ((mSt t l 2).sync nxL).2.D s) = _; rw [fat_sync_other _ h2]; exact hm 2 Qn)
  intro k
  match k with
  | 0 => exact hm 0 (by decide)
  | 1 => exact hm 1 (by decide)
  | 2 => exact hm 2 (by decide)
  | 3 => exact h3
  | k + 4 => exact (fb_rename_other (mSt t l 3) h2 h1).trans h3
 unfold mSwap
 split
 · have ht : (mTurn t l).2.fb s = t.fb s := by
    rcases turn_cases t l with ⟨k, _, _, _, e⟩ | ⟨_, e⟩ <;> rw [e] <;> exact hs _
   show (mClean _ _).fb s = _
   unfold mClean
   split
   · exact (fb_delete_other _ h2).trans ht
   exact ht
 rfl
theorem nm_ne_mf (x : Int) (h : 0 ≤ x ∧ x ≤ 1073741824) : nm x ≠ mfL := fun e => by
 unfold nm at e
 rw [if_pos h] at e
 exact absurd (List.cons.inj e).1 (by decide)
theorem nm_ne_nx (x : Int) (h : 0 ≤ x ∧ x ≤ 1073741824) : nm x ≠ nxL := fun e => by
 unfold nm at e
 rw [if_pos h] at e
 exact absurd (List.cons.inj e).1 (by decide)
theorem nm_ne_fx (x : Int) (h : 0 ≤ x ∧ x ≤ 1073741824) : nm x ≠ fxL := fun e => by
 unfold nm at e
 rw [if_pos h] at e
 exact absurd (List.cons.inj e).1 (by decide)
theorem fb_delete_yes {t : St} (s : List UInt8) (h : (t.delete s).1 = 0) : (t.delete s).2.fb s = none := by
 unfold St.delete at *
 by_cases h0 : t.fuse = 0
 · rw [if_pos h0] at h; cases h
 rw [if_neg h0] at h ⊢
 cases hf : fat t.D s with
 | none => rw [hf] at h; cases h
 | some f =>
  unfold St.fb
  show Option.map _ (fat (t.D.del _) s) = _
  rw [fat_del_same]
  rfl
theorem fb_drop_yes {t : St} (s : List UInt8) (h : (t.drop s).1 = 0) : (t.drop s).2.fb s = none := by
 unfold St.drop at *
 by_cases hh : t.has s = true
 · rw [if_pos hh] at h ⊢
   exact fb_delete_yes s h
 rw [if_neg hh]
 unfold St.has at hh
 unfold St.fb
 cases hf : fat t.D s with
 | none => rfl
 | some f => rw [hf] at hh; exact absurd rfl hh
theorem try_map {g : Lg} {t : St} (h : IsMap t.D) (first : Int) : IsMap (lgTry g t first).2.D :=
 thenSt_keep (P := fun t => IsMap t.D) (thenSt_keep (P := fun t => IsMap t.D) (thenSt_keep (P := fun t => IsMap t.D) (isMap_drop h _) fun _ h => isMap_write h _ _) fun _ h => isMap_sync h _) fun _ h => isMap_swap h _
theorem try_other {g : Lg} {t : St} (h : IsMap t.D) (first : Int) {s : List UInt8} (h1 : s ≠ nm first) (h2 : s ≠ mfL) (h3 : s ≠ nxL) : (lgTry g t first).2.fb s = t.fb s := by
 have := thenSt_keep (P := fun u => IsMap u.D ∧ u.fb s = t.fb s) (r := thenSt (thenSt (t.drop (nm first)) fun t => t.write (nm first) (hdo first)) fun t => t.sync (nm first)) (f := fun t => mSwap t (g.segs ++ [first]))
  (thenSt_keep (P := fun u => IsMap u.D ∧ u.fb s = t.fb s) (thenSt_keep (P := fun u => IsMap u.D ∧ u.fb s = t.fb s) ⟨isMap_drop h _, fb_drop_other t h1⟩ fun u hu => ⟨isMap_write hu.1 _ _, (fb_write_other u _ h1).trans hu.2⟩) fun u hu => ⟨isMap_sync hu.1 _, (fb_sync hu.1 _ _).trans hu.2⟩)
  fun u hu => ⟨isMap_swap hu.1 _, (fb_swap_other u _ h2 h3).trans hu.2⟩
 exact this.2
theorem try_yes {g : Lg} {t : St} (h : IsMap t.D) (first : Int) (hr : 0 ≤ first ∧ first ≤ 1073741824) (h0 : (lgTry g t first).1 = 0) : (lgTry g t first).2.fb (nm first) = some (head first.toNat) := by
 unfold lgTry at *
 obtain ⟨a1, e1, _⟩ := thenSt_yes h0
 rw [e1, fb_swap_other _ _ (nm_ne_mf first hr) (nm_ne_nx first hr)]
 obtain ⟨a2, e2, _⟩ := thenSt_yes a1
 rw [e2]
 have hm2 : IsMap (thenSt (t.drop (nm first)) fun t => t.write (nm first) (hdo first)).2.D := thenSt_keep (P := fun t => IsMap t.D) (isMap_drop h _) fun _ h => isMap_write h _ _
 rw [fb_sync hm2]
 obtain ⟨a3, e3, a4⟩ := thenSt_yes a2
 rw [e3, fb_write_yes (isMap_drop h _) _ _ a4, St.bytes_fb, fb_drop_yes _ a3]
 unfold hdo
 rw [if_pos hr]
 rfl
theorem lay_other {g : Lg} {t : St} (h : IsMap t.D) (first : Int) {s : List UInt8} (h1 : s ≠ nm first) (h2 : s ≠ mfL) (h3 : s ≠ nxL) : (lgLay g t first).2.1.fb s = t.fb s := by
 have ht := try_other (g := g) h first h1 h2 h3
 unfold lgLay
 simp only
 split
 · exact ht
 split
 · exact ht
 exact (fb_delete_other _ h1).trans ht
theorem lay_map {g : Lg} {t : St} (h : IsMap t.D) (first : Int) : IsMap (lgLay g t first).2.1.D := by
 have ht := try_map (g := g) h first
 unfold lgLay
 simp only
 split
 · exact ht
 split
 · exact ht
 exact isMap_delete ht _
end
section
open Go.RowKit Go.Sort Go.Maps
open Crc Frm
open Sgn
attribute [local go_sem] Oper.semAt_some
section
variable {w0 w : World} {dp lp size : Nat} {g : Lg} {t : St} {D : Nat → Prop} {sa : Option Addr} {sc : Nat}
theorem RLv.before {w1 w' : World} {O : Nat → Prop} {g' : Lg} {t' : St} (hb : Below w.heap.size w w1) (h : RLv w0 w1 dp lp size O g' t' w') : RLv w0 w dp lp size O g' t' w' := RLv.then (But.of_below (O := O) hb) (fun _ hk => .inl hk) h
theorem OpenL.nope_ {w0 w : World} {dp size : Nat} {D : Nat → Prop} {r : Int × St × Option Lg} {e : Ending} {w' : World} (h : OpenL w0 w dp size D r e w') (hn : r.2.2 = none) :
 e = .returned (.tuple #[.pointer none, .int .i64 r.1]) ∧ Mv w0 w dp D r.2.1 w' := by
 unfold OpenL at h
 rw [hn] at h
 exact h
theorem ROpenL.nope {w0 w : World} {dp size : Nat} {D : Nat → Prop} {r : Int × St × Option Lg} {e : Ending} {w' : World} (h : ROpenL w0 w dp size D r e w') (hn : r.2.2 = none) :
 e = .returned (.tuple #[.pointer none, .int .i64 r.1]) ∧ Mr w0 w dp D r.2.1 w' := by
 unfold ROpenL at h
 rw [hn] at h
 exact h
def Opn9k (w0 w : World) (dp size : Nat) (D : Nat → Prop) (t : St) (r : Int × St × Option Lg) (e : Ending) (w' : World) : Prop :=
 Good t.D t.room ∧ ((r.2.2 = none ∧ e = .returned (.tuple #[.pointer none, .int .i64 0, .int .i64 r.1]) ∧ ∃ D', DK w0 w' dp r.2.1 D' ∧ But D w w' ∧ ∀ k, D' k → D k ∨ w.heap.size ≤ k) ∨
  ∃ g lp D' sa sc, r.2.2 = some g ∧ e = .returned (.tuple #[.pointer (some ⟨lp, 0, none⟩), .int .i64 0, .int .i64 0]) ∧ LK w0 w' dp lp size g r.2.1 D' sa sc ∧ But D w w' ∧ ∀ k, lO D' lp sa k → D k ∨ w.heap.size ≤ k)
def RPn9 (w0 w : World) (dp size : Nat) (D : Nat → Prop) (t : St) (r : Int × St × Option Lg) (e : Ending) (w' : World) : Prop :=
 Good t.D t.room ∧ ((r.2.2 = none ∧ e = .returned (.tuple #[.pointer none, .int .i64 0, .int .i64 r.1]) ∧ ∃ D', RK w0 w' dp r.2.1 D' ∧ But D w w' ∧ ∀ k, D' k → D k ∨ w.heap.size ≤ k) ∨
  ∃ g lp D' sa sc, r.2.2 = some g ∧ e = .returned (.tuple #[.pointer (some ⟨lp, 0, none⟩), .int .i64 0, .int .i64 0]) ∧ RLK w0 w' dp lp size g r.2.1 D' sa sc ∧ But D w w' ∧ ∀ k, rlO D' lp sa k → D k ∨ w.heap.size ≤ k)
def RDid (w0 w : World) (dp lp size : Nat) (O : Nat → Prop) (r : (Int × Int) × St × Lg) (e : Ending) (w' : World) : Prop :=
 e = .returned (.tuple #[.pointer (some ⟨lp, 0, none⟩), .int .i64 r.1.1, .int .i64 r.1.2]) ∧ RLv w0 w dp lp size O r.2.2 r.2.1 w'
theorem plain6_any (h : RLK w0 w dp lp size g t D sa sc) (hne : g.segs ≠ []) (hfr : decide (g.segs.getLastD 0 < g.next) = decide (12 < (t.bytes (lgLast g)).length)) (hlen : g.segs.length ≤ 1000) (hsize : size ≤ 1000000000) (op : OgV) {B : Nat} (ho : OgIn w B op) (hB : B ≤ w0.heap.size) (h9 : op.what ≠ 9) :
 Calls Tryz.prog 12 #[.pointer (some ⟨dp, 0, none⟩), .pointer (some ⟨lp, 0, none⟩), .int .i64 (size : Int), ogVal op] w (RDid w0 w dp lp size (rlO D lp sa) (lgDo size g t op)) := by
 have hb1 : Below w.heap.size w (w.alloc (.cells #[.int .i64 op.what, .int .i64 op.kind, .slice op.ba op.bs.length op.bc, .int .i64 op.n, .slice op.ka op.ks.length op.kc] 41)) := Qb.alloc Qn _
 obtain ⟨x0, x1, x2, x3, x4⟩ := cell_box5 w (.int .i64 op.what) (.int .i64 op.kind) (.slice op.ba op.bs.length op.bc) (.int .i64 op.n) (.slice op.ka op.ks.length op.kc) 41
 have hwB : B ≤ w.heap.size := Nat.le_trans hB h.rk.below.size
 have k1 := h.on hb1
 have CS := Qh (rlsync_any k1 hne)
 have CR := Qh (rlretain_any k1 hne hlen op.n)
 have CF := Qh ((k1.rk.fuse op.n ho.n_.2).mono fun e w' hh => Qa hh.1 (k1.mv hh.2))
 have CL := Qh ((k1.rk.fail op.n ho.n_.2).mono fun e w' hh => Qa hh.1 (k1.mv hh.2))
 have CA := Qh (rlappend_any k1 hne hlen op.kind op.bs op.ba op.bc ((ho.sl.below hb1 hwB).more (by simp <;> omega)) hsize hfr)
 have HB := Qh hb1
 have HD : Hid (lgDo size g t op = if op.what = 4 ∨ op.what = 5 then ((0, (lgSync g t).1), (lgSync g t).2, g) else if op.what = 6 then ((0, (lgRetain g t op.n).1), (lgRetain g t op.n).2.1, (lgRetain g t op.n).2.2) else if op.what = 7 then ((0, 0), t.fuse_ op.n, g) else if op.what = 8 then ((0, 0), t.fail_ op.n, g) else lgAppend size g t op.kind op.bs) := rfl
 clear hb1 k1 ho h hfr
 generalize lgDo size g t op = r at *
 show Calls Tryz.prog 12 #[.pointer (some ⟨dp, 0, none⟩), .pointer (some ⟨lp, 0, none⟩), .int .i64 (size : Int), .agg #[.int .i64 op.what, .int .i64 op.kind, .slice op.ba op.bs.length op.bc, .int .i64 op.n, .slice op.ka op.ks.length op.kc]] w _
 generalize op.what = what at *
 by_cases h4 : what = 4
 · have hr : r = ((0, (lgSync g t).1), (lgSync g t).2, g) := HD.out.trans (by rw [if_pos (by omega)])
   subst hr h4
   clear HD
   go_enter Tryz.func12, Tryz.ntmps12
   go_wp2_with fail
   refine CS.out.mono ?_
   rintro e w' ⟨rfl, hmv⟩
   have HM := Qh (hmv.before HB.out)
   clear hmv
   go_wp2
   go_ret3
   exact ⟨rfl, HM.out⟩
 by_cases h5 : what = 5
 · have hr : r = ((0, (lgSync g t).1), (lgSync g t).2, g) := HD.out.trans (by rw [if_pos (by omega)])
   subst hr h5
   clear HD
   go_enter Tryz.func12, Tryz.ntmps12
   go_wp2_with fail
   refine CS.out.mono ?_
   rintro e w' ⟨rfl, hmv⟩
   have HM := Qh (hmv.before HB.out)
   clear hmv
   go_wp2
   go_ret3
   exact ⟨rfl, HM.out⟩
 by_cases h6 : what = 6
 · have hr : r = ((0, (lgRetain g t op.n).1), (lgRetain g t op.n).2.1, (lgRetain g t op.n).2.2) := HD.out.trans (by rw [if_neg (by omega), if_pos (by omega)])
   subst hr h6
   clear HD
   go_enter Tryz.func12, Tryz.ntmps12
   go_wp2_with fail
   refine CR.out.mono ?_
   rintro e w' ⟨rfl, hmv⟩
   have HM := Qh (hmv.before HB.out)
   clear hmv
   go_wp2
   go_ret3
   exact ⟨rfl, HM.out⟩
 by_cases h7 : what = 7
 · have hr : r = ((0, 0), t.fuse_ op.n, g) := HD.out.trans (by rw [if_neg (by omega), if_neg (by omega), if_pos (by omega)])
   subst hr h7
   clear HD
   go_enter Tryz.func12, Tryz.ntmps12
   go_wp2_with fail
   refine CF.out.mono ?_
   rintro e w' ⟨rfl, hmv⟩
   have HM := Qh (hmv.before HB.out)
   clear hmv
   go_wp2
   go_ret3
   exact ⟨rfl, HM.out⟩
 by_cases h8 : what = 8
 · have hr : r = ((0, 0), t.fail_ op.n, g) := HD.out.trans (by rw [if_neg (by omega), if_neg (by omega), if_neg (by omega), if_pos (by omega)])
   subst hr h8
   clear HD
   go_enter Tryz.func12, Tryz.ntmps12
   go_wp2_with fail
   refine CL.out.mono ?_
   rintro e w' ⟨rfl, hmv⟩
   have HM := Qh (hmv.before HB.out)
   clear hmv
   go_wp2
   go_ret3
   exact ⟨rfl, HM.out⟩
 have hr : r = lgAppend size g t op.kind op.bs := HD.out.trans (by rw [if_neg (by omega), if_neg (by omega), if_neg (by omega), if_neg (by omega)])
 subst hr
 clear HD
 go_enter Tryz.func12, Tryz.ntmps12
 go_wp2_with fail
 refine CA.out.mono ?_
 rintro e w' ⟨rfl, hmv⟩
 have HM := Qh (hmv.before HB.out)
 clear hmv
 go_wp2
 go_ret3
 exact ⟨rfl, HM.out⟩
theorem do9k_any (h : LK w0 w dp lp size g t D sa sc) (hL : Laid w0) (h64 : 64 ≤ size) (h65 : size ≤ 65536) (op : OgV) {B : Nat} (ho : OgIn w B op) (hB : B ≤ w0.heap.size) (h9 : op.what = 9) :
 Calls Tryz.prog 11 #[.pointer (some ⟨dp, 0, none⟩), .pointer (some ⟨lp, 0, none⟩), .int .i64 (size : Int), ogVal op] w (Opn9k w0 w dp size D (t.crash op.ks) (lgOpen size (t.crash op.ks))) := by
 obtain ⟨wa, hwa⟩ : ∃ wa, wa = w.alloc (.cells #[.int .i64 op.what, .int .i64 op.kind, .slice op.ba op.bs.length op.bc, .int .i64 op.n, .slice op.ka op.ks.length op.kc] 41) := ⟨_, rfl⟩
 have hb1 : Below w.heap.size w wa := by rw [hwa]; exact Qb.alloc Qn _
 obtain ⟨x0, x1, x2, x3, x4⟩ := cell_box5 w (.int .i64 op.what) (.int .i64 op.kind) (.slice op.ba op.bs.length op.bc) (.int .i64 op.n) (.slice op.ka op.ks.length op.kc) 41
 rw [← hwa] at x0 x1 x2 x3 x4
 have hwB : B ≤ w.heap.size := Nat.le_trans hB h.dk.below.size
 have k1 := (h.on hb1).dk
 have CC := Qh (k1.crash op.ks op.ka op.ks.length op.kc ((ho.row.below hb1 hwB).more hb1.size) rfl (fun hp k o e hO => by
  obtain ⟨b', o', e', hlt, _⟩ := ho.row.at_ hp
  rw [e] at e'
  injection e' with e'
  injection e' with e1 e2
  have := h.dk.base k hO
  omega))
 have HB := Qh hb1
 have HW := Qh hwa
 clear hb1 k1 ho h hwa
 show Calls Tryz.prog 11 #[.pointer (some ⟨dp, 0, none⟩), .pointer (some ⟨lp, 0, none⟩), .int .i64 (size : Int), .agg #[.int .i64 op.what, .int .i64 op.kind, .slice op.ba op.bs.length op.bc, .int .i64 op.n, .slice op.ka op.ks.length op.kc]] w _
 rw [h9] at HW x0 ⊢
 go_enter Tryz.func11, Tryz.ntmps11
 go_wp2_with fail
 rw [← HW.out]
 refine CC.out.mono ?_
 rintro e w5 ⟨rfl, hmv⟩
 obtain ⟨O5, k5, b5, f5⟩ := hmv
 have OP := Qh (lgopen_any k5 hL h64 h65)
 have H5 := Qh (Qa b5 (Qa f5 k5))
 generalize t.crash op.ks = t5 at *
 clear k5 b5 f5 CC
 go_wp2_with fail
 refine OP.out.mono ?_
 rintro e w6 hO
 cases hr : (lgOpen size t5).2.2 with
 | none =>
  obtain ⟨rfl, hmv⟩ := OpenL.nope_ hO hr
  obtain ⟨O6, k6, b6, f6⟩ := hmv
  have hsz := HB.out.size
  have hbt : But D w w6 := ((But.of_below (O := D) HB.out).trans H5.out.1 (fun _ hk => .inl hk)).trans b6 (fun k hk => by rcases H5.out.2.1 k hk with h1 | h1; exact .inl h1; right; omega)
  have hfk : ∀ k, O6 k → D k ∨ w.heap.size ≤ k := fun k hk => by
   have h5 := H5.out.1.size
   rcases f6 k hk with h1 | h1
   · rcases H5.out.2.1 k h1 with h2 | h2
     · exact Or.inl h2
     right; omega
   right; omega
  have K := Qh (Qa k6 (Qa hbt hfk))
  have HR := Qh hr
  clear hO hr k6 b6 hbt hsz hfk f6 OP
  generalize (lgOpen size t5) = r at *
  go_wp2
  go_ret3
  exact ⟨H5.out.2.2.good, .inl ⟨HR.out, rfl, O6, K.out.1, K.out.2.1, K.out.2.2⟩⟩
 | some g' =>
  unfold OpenL at hO
  rw [hr] at hO
  obtain ⟨lq, D', sa', sc', rfl, hk, hb, hge, hf⟩ := hO
  have hsz := HB.out.size
  have hbt : But D w w6 := ((But.of_below (O := D) HB.out).trans H5.out.1 (fun _ hk => .inl hk)).trans hb (fun k hk => by rcases H5.out.2.1 k hk with h1 | h1; exact .inl h1; right; omega)
  have hlk : ∀ k, lO D' lq sa' k → D k ∨ w.heap.size ≤ k := fun k hk => by
   have h5 := H5.out.1.size
   rcases hf k hk with h1 | h1
   · rcases H5.out.2.1 k h1 with h2 | h2
     · exact Or.inl h2
     right; omega
   right; omega
  have K := Qh (Qa hk (Qa hbt hlk))
  have HR := Qh hr
  clear hr hk hb hge hf OP hsz hbt hlk
  generalize (lgOpen size t5) = r at *
  go_wp2
  go_ret3
  exact ⟨H5.out.2.2.good, .inr ⟨g', lq, D', sa', sc', HR.out, rfl, K.out.1, K.out.2.1, K.out.2.2⟩⟩
theorem plain9_any (h : RLK w0 w dp lp size g t D sa sc) (h64 : 64 ≤ size) (h65 : size ≤ 65536) (op : OgV) {B : Nat} (ho : OgIn w B op) (hB : B ≤ w0.heap.size) (h9 : op.what = 9) :
 Calls Tryz.prog 12 #[.pointer (some ⟨dp, 0, none⟩), .pointer (some ⟨lp, 0, none⟩), .int .i64 (size : Int), ogVal op] w (RPn9 w0 w dp size D (t.crash op.ks) (lgOpen size (t.crash op.ks))) := by
 obtain ⟨wa, hwa⟩ : ∃ wa, wa = w.alloc (.cells #[.int .i64 op.what, .int .i64 op.kind, .slice op.ba op.bs.length op.bc, .int .i64 op.n, .slice op.ka op.ks.length op.kc] 41) := ⟨_, rfl⟩
 have hb1 : Below w.heap.size w wa := by rw [hwa]; exact Qb.alloc Qn _
 obtain ⟨x0, x1, x2, x3, x4⟩ := cell_box5 w (.int .i64 op.what) (.int .i64 op.kind) (.slice op.ba op.bs.length op.bc) (.int .i64 op.n) (.slice op.ka op.ks.length op.kc) 41
 rw [← hwa] at x0 x1 x2 x3 x4
 have hwB : B ≤ w.heap.size := Nat.le_trans hB h.rk.below.size
 have k1 := (h.on hb1).rk
 have CC := Qh (k1.crash op.ks op.ka op.ks.length op.kc ((ho.row.below hb1 hwB).more hb1.size) rfl (fun hp k o e hO => by
  obtain ⟨b', o', e', hlt, _⟩ := ho.row.at_ hp
  rw [e] at e'
  injection e' with e'
  injection e' with e1 e2
  have := h.rk.base k hO
  omega))
 have HB := Qh hb1
 have HW := Qh hwa
 clear hb1 k1 ho h hwa
 show Calls Tryz.prog 12 #[.pointer (some ⟨dp, 0, none⟩), .pointer (some ⟨lp, 0, none⟩), .int .i64 (size : Int), .agg #[.int .i64 op.what, .int .i64 op.kind, .slice op.ba op.bs.length op.bc, .int .i64 op.n, .slice op.ka op.ks.length op.kc]] w _
 rw [h9] at HW x0 ⊢
 go_enter Tryz.func12, Tryz.ntmps12
 go_wp2_with fail
 rw [← HW.out]
 refine CC.out.mono ?_
 rintro e w5 ⟨rfl, hmv⟩
 obtain ⟨O5, k5, b5, f5⟩ := hmv
 have OP := Qh (rlopen_any k5 h64 h65)
 have H5 := Qh (Qa b5 (Qa f5 k5))
 generalize t.crash op.ks = t5 at *
 clear k5 b5 f5 CC
 go_wp2_with fail
 refine OP.out.mono ?_
 rintro e w6 hO
 cases hr : (lgOpen size t5).2.2 with
 | none =>
  obtain ⟨rfl, hmv⟩ := ROpenL.nope hO hr
  obtain ⟨O6, k6, b6, f6⟩ := hmv
  have hsz := HB.out.size
  have hbt : But D w w6 := ((But.of_below (O := D) HB.out).trans H5.out.1 (fun _ hk => .inl hk)).trans b6 (fun k hk => by rcases H5.out.2.1 k hk with h1 | h1; exact .inl h1; right; omega)
  have hfk : ∀ k, O6 k → D k ∨ w.heap.size ≤ k := fun k hk => by
   have h5 := H5.out.1.size
   rcases f6 k hk with h1 | h1
   · rcases H5.out.2.1 k h1 with h2 | h2
     · exact Or.inl h2
     right; omega
   right; omega
  have K := Qh (Qa k6 (Qa hbt hfk))
  have HR := Qh hr
  clear hO hr k6 b6 hbt hsz hfk f6 OP
  generalize (lgOpen size t5) = r at *
  go_wp2
  go_ret3
  exact ⟨H5.out.2.2.good, .inl ⟨HR.out, rfl, O6, K.out.1, K.out.2.1, K.out.2.2⟩⟩
 | some g' =>
  unfold ROpenL at hO
  rw [hr] at hO
  obtain ⟨lq, D', sa', sc', rfl, hk, hb, hge, hf⟩ := hO
  have hsz := HB.out.size
  have hbt : But D w w6 := ((But.of_below (O := D) HB.out).trans H5.out.1 (fun _ hk => .inl hk)).trans hb (fun k hk => by rcases H5.out.2.1 k hk with h1 | h1; exact .inl h1; right; omega)
  have hlk : ∀ k, rlO D' lq sa' k → D k ∨ w.heap.size ≤ k := fun k hk => by
   have h5 := H5.out.1.size
   rcases hf k hk with h1 | h1
   · rcases H5.out.2.1 k h1 with h2 | h2
     · exact Or.inl h2
     right; omega
   right; omega
  have K := Qh (Qa hk (Qa hbt hlk))
  have HR := Qh hr
  clear hr hk hb hge hf OP hsz hbt hlk
  generalize (lgOpen size t5) = r at *
  go_wp2
  go_ret3
  exact ⟨H5.out.2.2.good, .inr ⟨g', lq, D', sa', sc', HR.out, rfl, K.out.1, K.out.2.1, K.out.2.2⟩⟩
end
end
section
open Go.RowKit Go.Sort Go.Maps
open Crc Frm
open Sgn
theorem delEach_other : ∀ (l : List (List UInt8)) (e : Int) (t : St) {s : List UInt8}, s ∉ l → (delEach l e t).2.fb s = t.fb s
 | [], _, _, _, _ => rfl
 | x :: l, e, t, s, h => by
  show (delEach l _ (t.delete x).2).2.fb s = _
  rw [delEach_other l _ _ (fun hm => h (by simp [hm])), fb_delete_other t (fun e => h (by simp [e]))]
theorem delEach_map : ∀ (l : List (List UInt8)) (e : Int) (t : St), IsMap t.D → IsMap (delEach l e t).2.D
 | [], _, _, h => h
 | x :: l, e, t, h => delEach_map l _ _ (isMap_delete h x)
theorem lgGone_ltM {g : Lg} (h : g.segs ≠ []) (seq : Int) : lgGone g seq < g.segs.length := by
 unfold lgGone
 cases hs : g.segs with
 | nil => exact absurd hs h
 | cons x l =>
  have := (List.takeWhile_sublist (fun x => decide (x ≤ seq)) (l := l)).length_le
  show (l.takeWhile _).length < l.length + 1
  omega
end
section
open Go.RowKit Go.Sort Go.Maps
open Crc Frm
open Sgn
theorem isMap_rename {t : St} (h : IsMap t.D) (s tn : List UInt8) : IsMap (t.rename s tn).2.D := by
 unfold St.rename
 by_cases h0 : t.fuse = 0
 · rw [if_pos h0]; exact h
 rw [if_neg h0]
 by_cases h1 : nmOk tn = false
 · rw [if_pos h1]; exact h
 rw [if_neg h1]
 cases fat t.D s with
 | none => exact h
 | some f => exact (h.del _).put _ _
theorem fb_rename_yes {t : St} (hm : IsMap t.D) (s tn : List UInt8) (h : (t.rename s tn).1 = 0) : (t.rename s tn).2.fb tn = t.fb s := by
 unfold St.rename at *
 by_cases h0 : t.fuse = 0
 · rw [if_pos h0] at h; cases h
 rw [if_neg h0] at h ⊢
 by_cases h1 : nmOk tn = false
 · rw [if_pos h1] at h; cases h
 rw [if_neg h1] at h ⊢
 cases hf : fat t.D s with
 | none => rw [hf] at h; cases h
 | some f =>
  unfold St.fb
  show Option.map _ (fat ((t.D.del _).put _ _) tn) = _
  rw [fat_put_same (hm.del _), hf]
theorem delAll_keep {P : St → Prop} (h : ∀ t s, P t → P (t.delete s).2) : ∀ (l : List (List UInt8)) (t : St), P t → P (delAll l t).2
 | [], _, ht => ht
 | x :: l, t, ht => thenSt_keep (h t x ht) (fun u hu => delAll_keep h l u hu)
theorem delAll_other : ∀ (l : List (List UInt8)) (t : St) {s : List UInt8}, s ∉ l → (delAll l t).2.fb s = t.fb s
 | [], _, _, _ => rfl
 | x :: l, t, s, h => thenSt_keep (P := fun u => u.fb s = t.fb s) (fb_delete_other t (fun e => h (by simp [e]))) (fun u hu => (delAll_other l u (fun hm => h (by simp [hm]))).trans hu)
theorem clean_other (g : Lg) (t : St) {x : Int} (hx : 0 ≤ x ∧ x ≤ 1073741824) (hm : x ∈ g.segs) : (lgClean g t).2.fb (nm x) = t.fb (nm x) := by
 refine delAll_other _ t (fun h => ?_)
 have := (List.mem_filter.1 h).2
 rw [fst_nm hx.1 hx.2] at this
 simp [hm] at this
theorem clean_map (g : Lg) {t : St} (h : IsMap t.D) : IsMap (lgClean g t).2.D := delAll_keep (P := fun t => IsMap t.D) (fun _ s h => isMap_delete h s) _ t h
theorem mend_map {g : Lg} {good : Option (List Nat)} {t : St} (h : IsMap t.D) : IsMap (lgMend g good t).2.D := by
 cases good with
 | none => exact h
 | some b =>
  exact thenSt_keep (P := fun t => IsMap t.D) (thenSt_keep (P := fun t => IsMap t.D) (thenSt_keep (P := fun t => IsMap t.D) (isMap_drop h _) fun _ h => isMap_write h _ _) fun _ h => isMap_sync h _) fun _ h => isMap_rename h _ _
theorem mend_yes {g : Lg} {b : List Nat} {t : St} (h : IsMap t.D) (h0 : (lgMend g (some b) t).1 = 0) : (lgMend g (some b) t).2.fb (lgLast g) = some b := by
 unfold lgMend at *
 simp only at *
 obtain ⟨a1, e1, a2⟩ := thenSt_yes h0
 have hm3 : IsMap (thenSt (thenSt (t.drop fxL) fun t => t.write fxL b) fun t => t.sync fxL).2.D := thenSt_keep (P := fun t => IsMap t.D) (thenSt_keep (P := fun t => IsMap t.D) (isMap_drop h _) fun _ h => isMap_write h _ _) fun _ h => isMap_sync h _
 rw [e1, fb_rename_yes hm3 _ _ a2]
 obtain ⟨b1, f1, _⟩ := thenSt_yes a1
 have hm2 : IsMap (thenSt (t.drop fxL) fun t => t.write fxL b).2.D := thenSt_keep (P := fun t => IsMap t.D) (isMap_drop h _) fun _ h => isMap_write h _ _
 rw [f1, fb_sync hm2]
 obtain ⟨c1, g1, c2⟩ := thenSt_yes b1
 rw [g1, fb_write_yes (isMap_drop h _) _ _ c2, St.bytes_fb, fb_drop_yes _ c1]
 rfl
end
section
open Go.RowKit Go.Sort Go.Maps
open Crc Frm
open Sgn
structure Nv (g : Lg) (t : St) : Prop where
 ne : g.segs ≠ []
 few : g.segs.length ≤ 41
 rng : ∀ x ∈ g.segs, 0 ≤ x ∧ x ≤ 1073741824
 up : g.segs.Pairwise (· < ·)
 le : g.segs.getLastD 0 ≤ g.next
 has : 12 ≤ (t.bytes (lgLast g)).length
 more : decide (g.segs.getLastD 0 < g.next) = decide (12 < (t.bytes (lgLast g)).length)
 map : IsMap t.D
theorem last_mem {l : List Int} (h : l ≠ []) : l.getLastD 0 ∈ l := by
 rw [List.getLastD_eq_getLast?, List.getLast?_eq_some_getLast h]
 exact List.getLast_mem _
theorem bytes_fb {t t' : St} {s : List UInt8} (h : t'.fb s = t.fb s) : t'.bytes s = t.bytes s := by
 unfold St.fb at h
 unfold St.bytes
 cases h1 : fat t'.D s <;> cases h2 : fat t.D s <;> rw [h1, h2] at h <;> simp at h <;> simp [h]
theorem bytes_some {t : St} {s : List UInt8} {b : List Nat} (h : t.fb s = some b) : t.bytes s = b := by
 unfold St.fb at h
 unfold St.bytes
 cases h1 : fat t.D s with
 | none => rw [h1] at h; cases h
 | some f => rw [h1] at h; simpa using h
theorem Nv.keep {g : Lg} {t t' : St} (h : Nv g t) (hm : IsMap t'.D) (hb : t'.fb (lgLast g) = t.fb (lgLast g)) : Nv g t' :=
 ⟨h.ne, h.few, h.rng, h.up, h.le, by rw [bytes_fb hb]; exact h.has, by rw [bytes_fb hb]; exact h.more, hm⟩
theorem Nv.last {g : Lg} {t : St} (h : Nv g t) : 0 ≤ g.segs.getLastD 0 ∧ g.segs.getLastD 0 ≤ 1073741824 := h.rng _ (last_mem h.ne)
theorem last_append (l : List Int) (x : Int) : (l ++ [x]).getLastD 0 = x := by simp
theorem le_last {l : List Int} (h : l.Pairwise (· < ·)) : ∀ x ∈ l, x ≤ l.getLastD 0 := by
 induction l with
 | nil => intro x hx; cases hx
 | cons y l ih =>
  intro x hx
  rw [List.pairwise_cons] at h
  cases l with
  | nil => simp at hx; subst hx; simp
  | cons z l =>
   have e : (y :: z :: l).getLastD 0 = (z :: l).getLastD 0 := by simp
   rw [e]
   rcases List.mem_cons.1 hx with rfl | hx
   · have h1 := h.1 _ (last_mem (l := z :: l) (by simp))
     omega
   exact ih h.2 x hx
theorem Nv.lay {g : Lg} {t : St} (h : Nv g t) (hlt : g.segs.getLastD 0 < g.next) (hn : g.next ≤ 1073741824) (hl : g.segs.length < 40) :
 Nv (lgLay g t g.next).2.2 (lgLay g t g.next).2.1 ∧ (lgLay g t g.next).2.2.next = g.next := by
 have h0 := h.last
 have hr : 0 ≤ g.next ∧ g.next ≤ 1073741824 := ⟨by omega, hn⟩
 have hne : lgLast g ≠ nm g.next := fun e => by
  have := nm_inj h0 hr e
  omega
 have ho := lay_other (g := g) h.map g.next hne (nm_ne_mf _ h0) (nm_ne_nx _ h0)
 have hm := lay_map (g := g) h.map g.next
 by_cases h1 : (lgTry g t g.next).1 = 0
 · have e : lgLay g t g.next = (0, (lgTry g t g.next).2, { g with segs := g.segs ++ [g.next] }) := by unfold lgLay; simp only; rw [if_pos h1]
   rw [e] at hm ⊢
   have hb := bytes_some (try_yes (g := g) h.map g.next hr h1)
   have hlast : lgLast { g with segs := g.segs ++ [g.next] } = nm g.next := by unfold lgLast; simp
   have hlen : ((lgTry g t g.next).2.bytes (nm g.next)).length = 12 := by rw [hb, head_len]
   refine ⟨⟨by simp, by simp; omega, fun x hx => ?_, ?_, ?_, ?_, ?_, hm⟩, rfl⟩
   · rcases List.mem_append.1 hx with hx | hx
     · exact h.rng x hx
     simp at hx; subst hx; exact hr
   · refine List.pairwise_append.2 ⟨h.up, List.pairwise_singleton _ _, fun x hx y hy => ?_⟩
     simp at hy
     subst hy
     have := le_last h.up x hx
     omega
   · show (g.segs ++ [g.next]).getLastD 0 ≤ g.next
     rw [last_append]; exact Int.le_refl _
   · rw [hlast, hlen]; exact Nat.le_refl _
   rw [hlast, hlen]
   show decide ((g.segs ++ [g.next]).getLastD 0 < g.next) = _
   rw [last_append]
   simp
 have e : (lgLay g t g.next).2.2 = g := by
  unfold lgLay
  simp only
  rw [if_neg h1]
  split <;> rfl
 rw [e]
 exact ⟨h.keep hm ho, rfl⟩
theorem Nv.sync {g : Lg} {t : St} (h : Nv g t) : Nv g (lgSync g t).2 := h.keep (isMap_sync h.map _) (fb_sync h.map _ _)
theorem Nv.room {g : Lg} {t : St} (h : Nv g t) (size more : Nat) (hn : g.next ≤ 1073741824) :
 Nv (lgRoom size g t more).2.2 (lgRoom size g t more).2.1 ∧ (lgRoom size g t more).2.2.next = g.next := by
 unfold lgRoom
 by_cases h1 : lgFull size g t more = false
 · rw [if_pos h1]; exact ⟨h, rfl⟩
 rw [if_neg h1]
 by_cases h2 : 40 ≤ g.segs.length
 · rw [if_pos h2]; exact ⟨h, rfl⟩
 rw [if_neg h2]
 simp only
 have hs := h.sync
 unfold lgSync at hs
 by_cases h3 : (t.sync (lgLast g)).1 ≠ 0
 · rw [if_pos h3]; exact ⟨hs, rfl⟩
 rw [if_neg h3]
 refine hs.lay ?_ hn (by omega)
 have h1 : lgFull size g t more = true := by simpa using h1
 unfold lgFull at h1
 have := (Bool.and_eq_true_iff.1 h1).1
 exact of_decide_eq_true this
theorem Nv.append {g : Lg} {t : St} (h : Nv g t) (size : Nat) (kind : Int) (body : List Nat) : Nv (lgAppend size g t kind body).2.2 (lgAppend size g t kind body).2.1 := by
 unfold lgAppend
 simp only
 by_cases hr : (⟨kind, g.next, body⟩ : Fr).right
 · rw [if_neg (by simpa using hr)]
   obtain ⟨hl, hnx⟩ := h.room size (put ⟨kind, g.next, body⟩).length hr.2.2.2.1
   have hput : 0 < (put ⟨kind, g.next, body⟩).length := by unfold put; rw [if_pos hr, raw_len]; omega
   generalize lgRoom size g t (put ⟨kind, g.next, body⟩).length = r at *
   obtain ⟨re, rt, rg⟩ := r
   simp only at *
   by_cases h1 : re ≠ 0
   · rw [if_pos h1]; exact hl
   rw [if_neg h1]
   by_cases h2 : (rt.write (lgLast rg) (put ⟨kind, g.next, body⟩)).1 ≠ 0
   · rw [if_pos h2]; exact hl.keep (isMap_write hl.map _ _) (fb_write_no _ _ _ _ h2)
   rw [if_neg h2]
   have hw := bytes_some (fb_write_yes hl.map (lgLast rg) (put ⟨kind, g.next, body⟩) (by simpa using h2))
   have hb : 12 < ((rt.write (lgLast rg) (put ⟨kind, g.next, body⟩)).2.bytes (lgLast rg)).length := by rw [hw, List.length_append]; have := hl.has; omega
   have hle := hl.le
   refine ⟨hl.ne, hl.few, hl.rng, hl.up, ?_, Nat.le_of_lt hb, ?_, isMap_write hl.map _ _⟩
   · show rg.segs.getLastD 0 ≤ g.next + 1
     omega
   show decide (rg.segs.getLastD 0 < g.next + 1) = decide (12 < ((rt.write (lgLast rg) (put ⟨kind, g.next, body⟩)).2.bytes (lgLast rg)).length)
   rw [decide_eq_true hb, decide_eq_true (by omega)]
 rw [if_pos (by simpa using hr)]
 exact h
theorem last_drop : ∀ (l : List Int) (k : Nat), k < l.length → (l.drop k).getLastD 0 = l.getLastD 0
 | [], k, h => absurd h (by simp)
 | x :: l, 0, _ => rfl
 | [x], k + 1, h => absurd h (by simp)
 | x :: y :: l, k + 1, h => by
  have := last_drop (y :: l) k (by simpa using h)
  simpa using this
theorem Nv.retain {g : Lg} {t : St} (h : Nv g t) (seq : Int) : Nv (lgRetain g t seq).2.2 (lgRetain g t seq).2.1 := by
 have h0 := h.last
 have hk := lgGone_ltM h.ne seq
 unfold lgRetain
 by_cases hg : lgGone g seq = 0
 · rw [if_pos hg]; exact h
 rw [if_neg hg]
 simp only
 generalize lgGone g seq = k at *
 have hs := h.keep (isMap_swap h.map (g.segs.drop k)) (fb_swap_other t (g.segs.drop k) (nm_ne_mf _ h0) (nm_ne_nx _ h0))
 by_cases h1 : (mSwap t (g.segs.drop k)).1 ≠ 0
 · rw [if_pos h1]; exact hs
 rw [if_neg h1]
 have hsp : g.segs.take k ++ g.segs.drop k = g.segs := List.take_append_drop _ _
 have hup := h.up
 rw [← hsp, List.pairwise_append] at hup
 have hnd : g.segs.drop k ≠ [] := by intro e; have := congrArg List.length e; simp at this; omega
 have hld := last_drop g.segs k hk
 have hml : g.segs.getLastD 0 ∈ g.segs.drop k := by rw [← hld]; exact last_mem hnd
 have hno : lgLast g ∉ (g.segs.take k).map nm := fun hm => by
  obtain ⟨x, hx, e⟩ := List.mem_map.1 hm
  have e2 := nm_inj (h.rng x (List.mem_of_mem_take hx)) h0 e
  have := hup.2.2 x hx _ hml
  omega
 have hd := hs.keep (delEach_map ((g.segs.take k).map nm) 0 _ hs.map) (delEach_other ((g.segs.take k).map nm) 0 _ hno)
 have hll : lgLast { g with segs := g.segs.drop k } = lgLast g := by unfold lgLast; rw [hld]
 refine ⟨hnd, by show (g.segs.drop k).length ≤ 41; rw [List.length_drop]; have := h.few; omega, fun x hx => h.rng x (List.mem_of_mem_drop hx), hup.2.1, ?_, ?_, ?_, hd.map⟩
 · show (g.segs.drop k).getLastD 0 ≤ g.next
   rw [hld]; exact h.le
 · rw [hll]; exact hd.has
 rw [hll]
 show decide ((g.segs.drop k).getLastD 0 < g.next) = _
 rw [hld]; exact hd.more
theorem Nv.do_ {g : Lg} {t : St} (h : Nv g t) (size : Nat) (op : OgV) : Nv (lgDo size g t op).2.2 (lgDo size g t op).2.1 := by
 unfold lgDo
 split
 · exact h.sync
 split
 · exact h.retain op.n
 split
 · exact h.keep h.map rfl
 split
 · exact h.keep h.map rfl
 exact h.append size op.kind op.bs
/-! Open. -/
theorem scanN_none : ∀ (k : Nat) (bs : List Nat) (first : Int), ((scanN k bs first).1 = [] ∧ (scanN k bs first).2 = 0) ∨ (0 < (scanN k bs first).1.length ∧ 0 < (scanN k bs first).2)
 | 0, _, _ => .inl ⟨rfl, rfl⟩
 | k + 1, bs, first => by
  unfold scanN
  by_cases h : (Frm.get bs).2.2 = 0 ∧ (Frm.get bs).1.seq = first
  · rw [if_pos h]
    refine .inr ⟨by simp, ?_⟩
    have h2 : 0 < (Frm.get bs).2.1 := by
     have h1 := h.1
     unfold Frm.get at h1 ⊢
     repeat' split at h1
     all_goals first | (exact absurd h1 (by decide)) | (simp only [*, if_pos, if_neg, not_true, not_false_eq_true, ite_true, ite_false]; omega)
    omega
  rw [if_neg h]; exact .inl ⟨rfl, rfl⟩
theorem rd_ok {bs : List Nat} (h : (rd bs).2.2.2 = 0) : 12 ≤ (rd bs).2.2.1 ∧ decide (0 < (rd bs).2.1.length) = decide (12 < (rd bs).2.2.1) := by
 unfold rd at *
 by_cases h1 : (rh bs).2 ≠ 0
 · rw [if_pos h1] at h; exact absurd h h1
 rw [if_neg h1]
 have := scanN_none ((bs.drop 12).length + 1) (bs.drop 12) ((rh bs).1 : Int)
 simp only
 unfold scan
 rcases this with ⟨a, b⟩ | ⟨a, b⟩
 · rw [a, b]; exact ⟨by omega, by simp⟩
 exact ⟨by omega, by rw [decide_eq_true a, decide_eq_true (by omega)]⟩
theorem upL_pair : ∀ (l : List Int) (z : Int), upL z l = true → l.Pairwise (· < ·)
 | [], _, _ => List.Pairwise.nil
 | x :: l, z, h => by
  simp only [upL, Bool.and_eq_true, decide_eq_true_eq] at h
  exact List.pairwise_cons.2 ⟨fun y hy => (upL_all l x h.2.2 y hy).1, upL_pair l x h.2.2⟩
theorem load_ok (t : St) : (mLoad t).1 = [] ∨ mOk (mLoad t).1 = true := by
 unfold mLoad
 split
 · exact .inl rfl
 unfold mGet
 split
 · exact .inl rfl
 split
 · exact .inl rfl
 split
 · rename_i h; exact .inr h
 exact .inl rfl
def Fnd (t : St) (r : Lg × Option (List Nat)) : Prop :=
 r.1.segs.getLastD 0 ≤ r.1.next ∧ 12 ≤ ((r.2.getD (t.bytes (lgLast r.1)))).length ∧ decide (r.1.segs.getLastD 0 < r.1.next) = decide (12 < (r.2.getD (t.bytes (lgLast r.1))).length)
theorem find_nv (t : St) : ∀ (l : List Int) (g : Lg), (g.segs ≠ [] → Fnd t (g, none)) → ∃ j, (lgFind t l g).1.segs = g.segs ++ l.take j ∧ ((lgFind t l g).1.segs ≠ [] → Fnd t (lgFind t l g))
 | [], g, h => ⟨0, by simp [lgFind], h⟩
 | x :: l, g, h => by
  unfold lgFind
  simp only
  by_cases h1 : (rd (t.bytes (nm x))).2.2.2 ≠ 0 ∨ ((rd (t.bytes (nm x))).1 : Int) ≠ x ∨ ¬(g.segs = [] ∨ x = g.next)
  · rw [if_pos h1]; exact ⟨0, by simp, h⟩
  rw [if_neg h1]
  have h2 : (rd (t.bytes (nm x))).2.2.2 = 0 := Decidable.not_not.1 (fun e => h1 (.inl e))
  obtain ⟨r1, r2⟩ := rd_ok h2
  have r3 := rd_good_le (t.bytes (nm x))
  generalize rd (t.bytes (nm x)) = r at *
  have e1 : (x + (r.2.1.length : Int)) = x + (r.2.1.length : Int) := rfl
  have hll : lgLast (⟨g.segs ++ [x], x + (r.2.1.length : Int)⟩ : Lg) = nm x := by unfold lgLast; simp
  have hdec : decide (x < x + (r.2.1.length : Int)) = decide (0 < r.2.1.length) := by
   by_cases hz : 0 < r.2.1.length
   · rw [decide_eq_true hz, decide_eq_true (by omega)]
   rw [decide_eq_false hz, decide_eq_false (by omega)]
  by_cases h3 : r.2.2.1 < (t.bytes (nm x)).length
  · rw [if_pos h3]
    refine ⟨1, by simp, fun _ => ⟨?_, ?_, ?_⟩⟩
    · show (g.segs ++ [x]).getLastD 0 ≤ x + (r.2.1.length : Int)
      rw [last_append]; omega
    · show 12 ≤ ((t.bytes (nm x)).take r.2.2.1).length
      rw [List.length_take]; omega
    show decide ((g.segs ++ [x]).getLastD 0 < x + (r.2.1.length : Int)) = decide (12 < ((t.bytes (nm x)).take r.2.2.1).length)
    rw [last_append, hdec, r2, List.length_take, Nat.min_eq_left r3]
  rw [if_neg h3]
  obtain ⟨j, j1, j2⟩ := find_nv t l ⟨g.segs ++ [x], x + (r.2.1.length : Int)⟩ (fun _ => ⟨by
   show (g.segs ++ [x]).getLastD 0 ≤ x + (r.2.1.length : Int)
   rw [last_append]; omega, by
   show 12 ≤ (t.bytes (lgLast ⟨g.segs ++ [x], x + (r.2.1.length : Int)⟩)).length
   rw [hll]; omega, by
   show decide ((g.segs ++ [x]).getLastD 0 < x + (r.2.1.length : Int)) = decide (12 < (t.bytes (lgLast ⟨g.segs ++ [x], x + (r.2.1.length : Int)⟩)).length)
   rw [last_append, hdec, r2, hll]
   congr 1
   simp only [eq_iff_iff]
   omega⟩)
  exact ⟨j + 1, by rw [j1]; simp, j2⟩
theorem lay_begins_nv {t : St} (hm : IsMap t.D) (h : (lgLay ⟨[], 0⟩ t 0).1 = 0) : Nv (lgLay ⟨[], 0⟩ t 0).2.2 (lgLay ⟨[], 0⟩ t 0).2.1 := by
 have hm2 := lay_map (g := ⟨[], 0⟩) hm 0
 have h1 : (lgTry ⟨[], 0⟩ t 0).1 = 0 := by
  unfold lgLay at h
  simp only at h
  split at h
  · assumption
  split at h
  · cases h
  exact h
 have e : lgLay ⟨[], 0⟩ t 0 = (0, (lgTry ⟨[], 0⟩ t 0).2, ⟨[0], 0⟩) := by unfold lgLay; simp only; rw [if_pos h1]; rfl
 rw [e] at hm2 ⊢
 have hb := bytes_some (try_yes (g := ⟨[], 0⟩) hm 0 (by omega) h1)
 have hlen : ((lgTry ⟨[], 0⟩ t 0).2.bytes (lgLast ⟨[0], 0⟩)).length = 12 := by
  show ((lgTry ⟨[], 0⟩ t 0).2.bytes (nm 0)).length = 12
  rw [hb, head_len]
 refine ⟨by simp, by simp, fun x hx => ?_, List.pairwise_singleton _ _, ?_, ?_, ?_, hm2⟩
 · simp at hx; subst hx; omega
 · show ([0] : List Int).getLastD 0 ≤ 0; simp
 · rw [hlen]; exact Nat.le_refl _
 rw [hlen]; show decide (([0] : List Int).getLastD 0 < 0) = _; simp
theorem restore_nv {t : St} (hm : IsMap t.D) (h : (lgRestore t).1 = 0) : Nv (lgRestore t).2.2 (lgRestore t).2.1 := by
 obtain ⟨j, j1, j2⟩ := find_nv t (mLoad t).1 ⟨[], 0⟩ (fun h => absurd rfl h)
 have hlo := load_ok t
 have hln := mLoad_len t
 unfold lgRestore at h ⊢
 simp only at h ⊢
 generalize (mLoad t).1 = l at *
 rw [List.nil_append] at j1
 by_cases h1 : (lgFind t l ⟨[], 0⟩).1.segs = []
 · rw [if_pos h1] at h ⊢
   have hg : (lgFind t l ⟨[], 0⟩).1 = ⟨[], 0⟩ := lgFind_none t l ⟨[], 0⟩ h1
   rw [hg] at h ⊢
   by_cases h2 : (lgClean ⟨[], 0⟩ t).1 ≠ 0
   · rw [if_pos h2] at h; exact absurd h h2
   rw [if_neg h2] at h ⊢
   exact lay_begins_nv (clean_map _ hm) h
 rw [if_neg h1] at h ⊢
 have hf := j2 h1
 generalize lgFind t l ⟨[], 0⟩ = r at *
 obtain ⟨g, good⟩ := r
 simp only at *
 have hmo : mOk l = true := by
  rcases hlo with h3 | h3
  · rw [h3] at j1; simp at j1; exact absurd j1 h1
  exact h3
 have hrng : ∀ x ∈ g.segs, 0 ≤ x ∧ x ≤ 1073741824 := fun x hx => (mOk_all hmo).2.2 x (List.mem_of_mem_take (j1 ▸ hx))
 have hup : g.segs.Pairwise (· < ·) := by
  rw [j1]
  have := upL_pair l (-1) (by unfold mOk at hmo; simp only [Bool.and_eq_true] at hmo; exact hmo.2.2)
  exact this.sublist (List.take_sublist _ _)
 have hfw : g.segs.length ≤ 41 := by rw [j1, List.length_take]; omega
 have h0 := hrng _ (last_mem h1)
 obtain ⟨s1, e1, s2⟩ := thenSt_yes h
 obtain ⟨s3, e2, s4⟩ := thenSt_yes s1
 obtain ⟨s5, e3, s6⟩ := thenSt_yes s3
 rw [e1, e2, e3]
 generalize hA : (if g.segs.length = l.length then ((0 : Int), t) else mSwap t g.segs) = A at *
 have hAm : IsMap A.2.D := by rw [← hA]; split; exact hm; exact isMap_swap hm _
 have hAf : A.2.fb (lgLast g) = t.fb (lgLast g) := by rw [← hA]; split; rfl; exact fb_swap_other _ _ (nm_ne_mf _ h0) (nm_ne_nx _ h0)
 have hMm : IsMap (lgMend g good A.2).2.D := mend_map hAm
 have hMb : (lgMend g good A.2).2.bytes (lgLast g) = good.getD (t.bytes (lgLast g)) := by
  cases good with
  | none => exact bytes_fb hAf
  | some b => exact bytes_some (mend_yes hAm s6)
 have hN : Nv g (lgMend g good A.2).2 := ⟨h1, hfw, hrng, hup, hf.1, by rw [hMb]; exact hf.2.1, by rw [hMb]; exact hf.2.2, hMm⟩
 exact (hN.keep (clean_map g hMm) (clean_other g _ h0 (last_mem h1))).sync
theorem open_nv {size : Int} {t : St} (hm : IsMap t.D) {g : Lg} (h : (lgOpen size t).2.2 = some g) : Nv g (lgOpen size t).2.1 := by
 have hr := fun h => restore_nv (t := t) hm h
 unfold lgOpen at h ⊢
 simp only at h ⊢
 split at h
 · cases h
 rename_i hs
 rw [if_neg hs]
 generalize lgRestore t = r at *
 split at h
 · cases h
 rename_i h1
 rw [if_neg h1]
 injection h with h
 subst h
 have h1 : (thenSt (thenSt (r.1, r.2.1) fun t => t.drop fxL) fun t => t.drop nxL).1 = 0 := Decidable.not_not.1 h1
 obtain ⟨a1, e1, _⟩ := thenSt_yes h1
 obtain ⟨a2, e2, _⟩ := thenSt_yes a1
 have hn := hr a2
 have h0 := hn.last
 show Nv _ (thenSt (thenSt (r.1, r.2.1) fun t => t.drop fxL) fun t => t.drop nxL).2
 rw [e1, e2]
 have k1 := hn.keep (isMap_drop hn.map fxL) (fb_drop_other _ (nm_ne_fx _ h0))
 exact k1.keep (isMap_drop k1.map nxL) (fb_drop_other _ (nm_ne_nx _ h0))
end
section
open Go.RowKit Go.Sort Go.Maps
open Crc Frm
open Sgn
def stp (size : Nat) (g : Lg) (t : St) (op : OgV) : (Int × Int) × St × Option Lg :=
 if op.what = 9 then ((0, (lgOpen size (t.crash op.ks)).1), (lgOpen size (t.crash op.ks)).2.1, (lgOpen size (t.crash op.ks)).2.2)
 else ((lgDo size g t op).1, (lgDo size g t op).2.1, some (lgDo size g t op).2.2)
theorem stp9 {size : Nat} {g : Lg} {t : St} {op : OgV} (h : op.what = 9) : stp size g t op = ((0, (lgOpen size (t.crash op.ks)).1), (lgOpen size (t.crash op.ks)).2.1, (lgOpen size (t.crash op.ks)).2.2) := by unfold stp; rw [if_pos h]
theorem stpN {size : Nat} {g : Lg} {t : St} {op : OgV} (h : op.what ≠ 9) : stp size g t op = ((lgDo size g t op).1, (lgDo size g t op).2.1, some (lgDo size g t op).2.2) := by unfold stp; rw [if_neg h]
theorem stp_nv {g : Lg} {t : St} (h : Nv g t) (size : Nat) (op : OgV) (hc : op.what = 9 → Good (t.crash op.ks).D (t.crash op.ks).room) :
 ∀ g', (stp size g t op).2.2 = some g' → Nv g' (stp size g t op).2.1 := by
 intro g' hg
 by_cases h9 : op.what = 9
 · rw [stp9 h9] at hg ⊢
   exact open_nv (canon_map (hc h9).canon) hg
 rw [stpN h9] at hg ⊢
 injection hg with hg
 subst hg
 exact h.do_ size op
def PS (w1 w : World) (dp n : Nat) (u : St) (o : Option Lg) (x : Value) (D : Nat → Prop) : Prop :=
 match o with
 | none => x = .pointer none ∧ DK w1 w dp u D
 | some g => ∃ lp D' sa sc, x = .pointer (some ⟨lp, 0, none⟩) ∧ LK w1 w dp lp n g u D' sa sc ∧ D = lO D' lp sa
def RS (w1 w : World) (rp n : Nat) (u : St) (o : Option Lg) (y : Value) (E : Nat → Prop) : Prop :=
 match o with
 | none => y = .pointer none ∧ RK w1 w rp u E
 | some g => ∃ qp E' sb sd, y = .pointer (some ⟨qp, 0, none⟩) ∧ RLK w1 w rp qp n g u E' sb sd ∧ E = rlO E' qp sb
section
variable {w1 w w' : World} {dp rp n : Nat} {u v : St} {o o' : Option Lg} {x y : Value} {D E O : Nat → Prop}
theorem PS.dk (h : PS w1 w dp n u o x D) : ∃ D', DK w1 w dp u D' ∧ ∀ k, D' k → D k := by
 unfold PS at h
 cases o with
 | none => exact ⟨D, h.2, fun _ hk => hk⟩
 | some g => obtain ⟨lp, D', sa, sc, _, h1, rfl⟩ := h; exact ⟨D', h1.dk, fun _ hk => .inl hk⟩
theorem RS.rk (h : RS w1 w rp n u o y E) : ∃ E', RK w1 w rp u E' ∧ ∀ k, E' k → E k := by
 unfold RS at h
 cases o with
 | none => exact ⟨E, h.2, fun _ hk => hk⟩
 | some g => obtain ⟨lp, D', sa, sc, _, h1, rfl⟩ := h; exact ⟨D', h1.rk, fun _ hk => .inl hk⟩
theorem PS.lt (h : PS w1 w dp n u o x D) : ∀ k, D k → k < w.heap.size ∧ w1.heap.size ≤ k := by
 unfold PS at h
 cases o with
 | none => exact fun k hk => ⟨h.2.lt k hk, h.2.base k hk⟩
 | some g => obtain ⟨lp, D', sa, sc, _, h1, rfl⟩ := h; exact fun k hk => ⟨h1.lt k hk, h1.ge k hk⟩
theorem RS.lt (h : RS w1 w rp n u o y E) : ∀ k, E k → k < w.heap.size ∧ w1.heap.size ≤ k := by
 unfold RS at h
 cases o with
 | none => exact fun k hk => ⟨h.2.lt k hk, h.2.base k hk⟩
 | some g => obtain ⟨lp, D', sa, sc, _, h1, rfl⟩ := h; exact fun k hk => ⟨h1.lt k hk, h1.ge k hk⟩
theorem PS.out (h : PS w1 w dp n u o x D) (hb : But O w w') (hO : ∀ k, O k → ¬ D k ∧ w1.heap.size ≤ k) : PS w1 w' dp n u o x D := by
 unfold PS at h ⊢
 cases o with
 | none => exact ⟨h.1, h.2.out_ hb hO⟩
 | some g => obtain ⟨lp, D', sa, sc, e, h1, rfl⟩ := h; exact ⟨lp, D', sa, sc, e, h1.outB_ hb hO, rfl⟩
theorem RS.out (h : RS w1 w rp n u o y E) (hb : But O w w') (hO : ∀ k, O k → ¬ E k ∧ w1.heap.size ≤ k) : RS w1 w' rp n u o y E := by
 unfold RS at h ⊢
 cases o with
 | none => exact ⟨h.1, h.2.out_ hb hO⟩
 | some g => obtain ⟨lp, D', sa, sc, e, h1, rfl⟩ := h; exact ⟨lp, D', sa, sc, e, h1.out_ hb hO, rfl⟩
def BS (w1 w : World) (dp rp n : Nat) (u : St) (o : Option Lg) (x : Value) (v : St) (o' : Option Lg) (y : Value) : Prop :=
 ∃ D E, PS w1 w dp n u o x D ∧ RS w1 w rp n v o' y E ∧ ∀ k, D k → ¬ E k
theorem BS.on (h : BS w1 w dp rp n u o x v o' y) (hb : Below w.heap.size w w') : BS w1 w' dp rp n u o x v o' y := by
 obtain ⟨D, E, h1, h2, h3⟩ := h
 exact ⟨D, E, h1.out (O := fun _ => False) (But.of_below hb) (fun _ hk => hk.elim), h2.out (O := fun _ => False) (But.of_below hb) (fun _ hk => hk.elim), h3⟩
theorem BS.below (h : BS w1 w dp rp n u o x v o' y) : Below w1.heap.size w1 w := by
 obtain ⟨D, E, h1, _, _⟩ := h
 obtain ⟨D', h2, _⟩ := h1.dk
 exact h2.below
theorem BS.alike (h : BS w1 w dp rp n u o x u o' y) : Calls Tryz.prog 13 #[.pointer (some ⟨dp, 0, none⟩), .pointer (some ⟨rp, 0, none⟩)] w fun e w' => e = .returned (.bool true) ∧ Below w.heap.size w w' := by
 obtain ⟨D, E, h1, h2, _⟩ := h
 obtain ⟨D', h3, _⟩ := h1.dk
 obtain ⟨E', h4, _⟩ := h2.rk
 exact alike_any h3 h4
def Dn (w1 : World) (dp rp n : Nat) (r : (Int × Int) × St × Option Lg) (c9 : Prop) (v : St) (o' : Option Lg) (y : Value) (e : Ending) (w' : World) : Prop :=
 ∃ x, e = .returned (.tuple #[x, .int .i64 r.1.1, .int .i64 r.1.2]) ∧ c9 ∧ BS w1 w' dp rp n r.2.1 r.2.2 x v o' y
theorem BS.do_ {g : Lg} (h : BS w1 w dp rp n u (some g) x v o' y) (hd : Nv g u) (hL : Laid w1) (h64 : 64 ≤ n) (h65 : n ≤ 65536) (op : OgV) {B : Nat} (ho : OgIn w B op) (hB : B ≤ w1.heap.size) :
 Calls Tryz.prog 11 #[.pointer (some ⟨dp, 0, none⟩), x, .int .i64 (n : Int), ogVal op] w (Dn w1 dp rp n (stp n g u op) (op.what = 9 → Good (u.crash op.ks).D (u.crash op.ks).room) v o' y) := by
 obtain ⟨D, E, h1, h2, h3⟩ := h
 obtain ⟨lp, D', sa, sc, rfl, k, rfl⟩ := h1
 by_cases h9 : op.what = 9
 · rw [stp9 h9]
   refine (do9k_any k hL h64 h65 op ho hB h9).mono fun e w' hh => ?_
   obtain ⟨hG, hc⟩ := hh
   rcases hc with ⟨hn, rfl, D2, k2, b2, f2⟩ | ⟨g2, lq, D2, sa2, sc2, hs, rfl, k2, b2, f2⟩
   · refine ⟨.pointer none, rfl, fun _ => hG, D2, E, ?_, h2.out b2 (fun j hj => ⟨h3 j (.inl hj), k.dk.base j hj⟩), fun j hj he => ?_⟩
     · rw [hn]; exact ⟨rfl, k2⟩
     rcases f2 j hj with h4 | h4
     · exact h3 j (.inl h4) he
     have := (h2.lt j he).1; omega
   have h0 := (lgOpen_few hs).2
   refine ⟨.pointer (some ⟨lq, 0, none⟩), by rw [h0], fun _ => hG, lO D2 lq sa2, E, ?_, h2.out b2 (fun j hj => ⟨h3 j (.inl hj), k.dk.base j hj⟩), fun j hj he => ?_⟩
   · rw [hs]; exact ⟨lq, D2, sa2, sc2, rfl, k2, rfl⟩
   rcases f2 j hj with h4 | h4
   · exact h3 j (.inl h4) he
   have := (h2.lt j he).1; omega
 rw [stpN h9]
 refine (do6_any k hd.ne hL (by have := hd.few; omega) (by omega) op ho hB h9).mono fun e w' hh => ?_
 obtain ⟨rfl, hm⟩ := hh
 obtain ⟨D2, sa2, sc2, k2, b2, f2⟩ := hm
 refine ⟨_, rfl, fun h => absurd h h9, lO D2 lp sa2, E, ⟨lp, D2, sa2, sc2, rfl, k2, rfl⟩, h2.out b2 (fun j hj => ⟨h3 j hj, k.ge j hj⟩), fun j hj he => ?_⟩
 rcases f2 j hj with h4 | h4
 · exact h3 j h4 he
 have := (h2.lt j he).1; omega
def Rn (w1 : World) (dp rp n : Nat) (r : (Int × Int) × St × Option Lg) (u : St) (o : Option Lg) (x : Value) (e : Ending) (w' : World) : Prop :=
 ∃ y, e = .returned (.tuple #[y, .int .i64 r.1.1, .int .i64 r.1.2]) ∧ BS w1 w' dp rp n u o x r.2.1 r.2.2 y
theorem BS.plain {g : Lg} (h : BS w1 w dp rp n u o x v (some g) y) (hd : Nv g v) (h64 : 64 ≤ n) (h65 : n ≤ 65536) (op : OgV) {B : Nat} (ho : OgIn w B op) (hB : B ≤ w1.heap.size) :
 Calls Tryz.prog 12 #[.pointer (some ⟨rp, 0, none⟩), y, .int .i64 (n : Int), ogVal op] w (Rn w1 dp rp n (stp n g v op) u o x) := by
 obtain ⟨D, E, h1, h2, h3⟩ := h
 obtain ⟨qp, E', sb, sd, rfl, k, rfl⟩ := h2
 by_cases h9 : op.what = 9
 · rw [stp9 h9]
   refine (plain9_any k h64 h65 op ho hB h9).mono fun e w' hh => ?_
   obtain ⟨hG, hc⟩ := hh
   rcases hc with ⟨hn, rfl, E2, k2, b2, f2⟩ | ⟨g2, lq, E2, sb2, sd2, hs, rfl, k2, b2, f2⟩
   · refine ⟨.pointer none, rfl, D, E2, h1.out b2 (fun j hj => ⟨fun hd => h3 j hd (.inl hj), k.rk.base j hj⟩), ?_, fun j hj he => ?_⟩
     · rw [hn]; exact ⟨rfl, k2⟩
     rcases f2 j he with h4 | h4
     · exact h3 j hj (.inl h4)
     have := (h1.lt j hj).1; omega
   have h0 := (lgOpen_few hs).2
   refine ⟨.pointer (some ⟨lq, 0, none⟩), by rw [h0], D, rlO E2 lq sb2, h1.out b2 (fun j hj => ⟨fun hd => h3 j hd (.inl hj), k.rk.base j hj⟩), ?_, fun j hj he => ?_⟩
   · rw [hs]; exact ⟨lq, E2, sb2, sd2, rfl, k2, rfl⟩
   rcases f2 j he with h4 | h4
   · exact h3 j hj (.inl h4)
   have := (h1.lt j hj).1; omega
 rw [stpN h9]
 refine (plain6_any k hd.ne hd.more (by have := hd.few; omega) (by omega) op ho hB h9).mono fun e w' hh => ?_
 obtain ⟨rfl, hm⟩ := hh
 obtain ⟨E2, sb2, sd2, k2, b2, f2⟩ := hm
 refine ⟨_, rfl, D, rlO E2 qp sb2, h1.out b2 (fun j hj => ⟨fun hd => h3 j hd hj, k.ge j hj⟩), ⟨qp, E2, sb2, sd2, rfl, k2, rfl⟩, fun j hj he => ?_⟩
 rcases f2 j he with h4 | h4
 · exact h3 j hj h4
 have := (h1.lt j hj).1; omega
def GotI (w : World) (l : List Int) (e : Ending) (w' : World) : Prop := ∃ a c, e = .returned (.slice a l.length c) ∧ Row w' w'.heap.size a l.length c 1 (intsC l) ∧ Below w.heap.size w w'
structure Both (w1 w : World) (lp qp : Nat) (fs : List Fr) (nx : Int) (sg : List Int) : Prop where
 f1 : ∀ z, Below w.heap.size w z → Calls Tryz.prog 15 #[.pointer (some ⟨lp, 0, none⟩)] z (GotF z fs)
 f2 : ∀ z, Below w.heap.size w z → Calls Tryz.prog 16 #[.pointer (some ⟨qp, 0, none⟩)] z (GotF z fs)
 n1 : ∀ z, Below w.heap.size w z → Calls Tryz.prog 17 #[.pointer (some ⟨lp, 0, none⟩)] z fun e w' => e = .returned (.int .i64 nx) ∧ w' = z
 n2 : ∀ z, Below w.heap.size w z → Calls Tryz.prog 18 #[.pointer (some ⟨qp, 0, none⟩)] z fun e w' => e = .returned (.int .i64 nx) ∧ w' = z
 s1 : ∀ z, Below w.heap.size w z → Calls Tryz.prog 20 #[.pointer (some ⟨lp, 0, none⟩)] z (GotI z sg)
 s2 : ∀ z, Below w.heap.size w z → Calls Tryz.prog 21 #[.pointer (some ⟨qp, 0, none⟩)] z (GotI z sg)
theorem rframes_gotB {w0 w : World} {rp lp size : Nat} {g : Lg} {t : St} {D : Nat → Prop} {sa : Option Addr} {sc : Nat} (h : RLK w0 w rp lp size g t D sa sc) (hlen : g.segs.length ≤ 100) {fs : List Fr} (hf : lgFrames g t = fs) : Calls Tryz.prog 16 #[.pointer (some ⟨lp, 0, none⟩)] w (GotF w fs) :=
 (rlframes_any h hlen).mono fun e w' ⟨v, ts, he, ho, hts, hb, hB⟩ => by
  obtain ⟨a, cap, hv, hF⟩ := FrF.of ho hB
  rw [hts, hf] at hF
  have hl : ts.length = fs.length := by rw [← hf, ← hts, List.length_map]
  rw [hl] at hF hv
  exact ⟨a, cap, by rw [he, hv], hF, hb⟩
theorem BS.both {g : Lg} (h : BS w1 w dp rp n u (some g) x u (some g) y) (hL : Laid w1) (hlen : g.segs.length ≤ 100) : ∃ lp qp, x = .pointer (some ⟨lp, 0, none⟩) ∧ y = .pointer (some ⟨qp, 0, none⟩) ∧ ∃ fs nx sg, Both w1 w lp qp fs nx sg := by
 obtain ⟨D, E, ⟨lp, D', sa, sc, rfl, k, rfl⟩, ⟨qp, E', sb, sd, rfl, q, rfl⟩, _⟩ := h
 exact ⟨lp, qp, rfl, rfl, lgFrames g u, g.next, g.segs, fun z hz => frames_got (k.on hz) hL hlen rfl, fun z hz => rframes_gotB (q.on hz) hlen rfl, fun z hz => lgnext_any (k.on hz), fun z hz => rlnext_any (q.on hz),
  fun z hz => (segments_any (k.on hz) (by omega)).mono fun e w' ⟨v, he, ho, hb⟩ => by obtain ⟨a, c, hv, hr, _⟩ := OwnV.out_ ho; exact ⟨a, c, by rw [he, hv], hr, hb⟩,
  fun z hz => (rlsegments_any (q.on hz) (by omega)).mono fun e w' ⟨v, he, ho, hb⟩ => by obtain ⟨a, c, hv, hr, _⟩ := OwnV.out_ ho; exact ⟨a, c, by rw [he, hv], hr, hb⟩⟩
theorem BS.nil_ (h : BS w1 w dp rp n u none x v none y) : x = .pointer none ∧ y = .pointer none := by
 obtain ⟨D, E, h1, h2, _⟩ := h
 exact ⟨h1.1, h2.1⟩
end
end
end Go.Proofs.YtamblmoedommfaaGreatDoor

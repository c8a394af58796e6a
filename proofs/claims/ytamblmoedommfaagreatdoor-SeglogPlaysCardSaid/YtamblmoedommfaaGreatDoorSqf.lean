/- Contracts of the program's segment: readHead, Read. The program's log, in memory: where it lies, what its calls . The program's log: steps in turn; Sync; is the last one full. A range over a function whose iterator tells something of me. A range over a function whose body changes memory that the i. The program's log: deletes of all that an iterator tells, up. The program's log: those of some names of which there is a f. 'append(v, x. The program's log: a segment is laid, its steps; the library. The program's log: steps that ask the disk alone: those of l. The program's log: a segment is laid: its deferred call, its. The program's log: a segment is laid. -/
import Derived.Test.YtamblmoedommfaaGreatDoorSqa
import Derived.Test.YtamblmoedommfaaGreatDoorSqb
import Derived.Test.YtamblmoedommfaaGreatDoorSqe
import Derived.Deep.RegionHeld
import Derived.Below
import Derived.BigQuiet
import Derived.Deep.QuietTactic
import Derived.RangeFuncNested
import Derived.RangeFuncLeaves
import Derived.RangeFuncBound
import Derived.RangeFuncCalls
import Derived.Shelf.Abstract
import Derived.OwnWalkIn
import Derived.TacticsInMore
import Derived.LoopNIn
import Derived.LoopIn
import Derived.Laws.OwnMore
import Derived.Lib.SliceRun
import Derived.Deep.RegionHeld3
namespace Go.Proofs.YtamblmoedommfaaGreatDoor
set_option maxRecDepth 100000
set_option maxHeartbeats 40000000
set_option linter.unusedVariables false
set_option linter.unusedSimpArgs false
set_option linter.unusedSectionVars false
section
open Go.RowKit
open Crc Frm
theorem val4_lt {bs : List Nat} (hb : ∀ c ∈ bs, c < 256) (k : Nat) : val ((bs.drop k).take 4) < 4294967296 := by
 have h1 := val_lt ((bs.drop k).take 4) (fun c hc => hb c (List.mem_of_mem_drop (List.mem_of_mem_take hc)))
 have h2 : ((bs.drop k).take 4).length ≤ 4 := List.length_take_le _ _
 have h3 := Nat.pow_le_pow_right (n := 256) (by decide) h2
 omega
theorem readHead_any (a : Option Addr) (len cap : Nat) (bs : List Nat) (w : World) (hs : Sl w w.heap.size a len cap bs) :
 Calls Tryz.prog 104 #[.slice a len cap] w fun e w' => e = .returned (.tuple #[.int .i64 (((rh bs).1 : Nat) : Int), .int .i64 (((rh bs).2 : Nat) : Int)]) ∧ Below w.heap.size w w' := by
 have hbl := hs.length
 have hle := hs.le
 have hmx := hs.max
 unfold maxLen at hmx
 by_cases h12 : len < 12
 · have hr : rh bs = (0, 13) := by unfold rh; rw [if_pos (by omega)]
   rw [hr]
   have h12' : (len : Int) < 12 := by omega
   go_enter Tryz.func104, Tryz.ntmps104
   go_wp2
   go_ret2
   exact ⟨rfl, Below.refl _ _⟩
 have h12' : (12 : Int) ≤ (len : Int) := by omega
 have s4 := hs.take (k := 4) (by omega)
 have c4 : ∀ w, (Instr.slice 38 (.slice a len cap) none (some (.int .i64 4)) none).run Tryz.prog w = .ok (.slice a 4 cap) w := run_cut_to (P := Tryz.prog) 38 5 Tryz.underlying38 info_u8 a len cap 4 (by omega)
 have cv := run_str (P := Tryz.prog) s4 38 5 9 Tryz.underlying38 Tryz.underlying5 Tryz.underlying9
 have hmg : strOf magic = ⟨#[71, 79, 86, 49]⟩ := by decide +kernel
 by_cases hm : bs.take 4 = magic
 · rw [hm, hmg] at cv
   have s8 := hs.take (k := 8) (by omega)
   have c8 : ∀ w, (Instr.slice 38 (.slice a len cap) none (some (.int .i64 8)) none).run Tryz.prog w = .ok (.slice a 8 cap) w := run_cut_to (P := Tryz.prog) 38 5 Tryz.underlying38 info_u8 a len cap 8 (by omega)
   have f8 := hs.from_ (k := 8) (by omega)
   have d8 : ∀ w, (Instr.slice 38 (.slice a len cap) (some (.int .i64 8)) none none).run Tryz.prog w = .ok (.slice (fromA a cap 8) (len - 8) (cap - 8)) w := run_cut_from (P := Tryz.prog) 38 5 Tryz.underlying38 info_u8 a len cap 8 (by omega)
   have f4 := hs.from_ (k := 4) (by omega)
   have d4 : ∀ w, (Instr.slice 38 (.slice a len cap) (some (.int .i64 4)) none none).run Tryz.prog w = .ok (.slice (fromA a cap 4) (len - 4) (cap - 4)) w := run_cut_from (P := Tryz.prog) 38 5 Tryz.underlying38 info_u8 a len cap 4 (by omega)
   generalize fromA a cap 8 = a8 at f8 d8
   generalize cap - 8 = k8 at f8 d8
   generalize hl8 : len - 8 = l8 at f8 d8
   generalize fromA a cap 4 = a4 at f4 d4
   generalize cap - 4 = k4 at f4 d4
   generalize hl4 : len - 4 = l4 at f4 d4
   have R8 := Qh (sread_any a8 l8 k8 _ w.drew f8.drew (by omega))
   have OF := Qh (fun (w' : World) (hb : Below w.heap.size w w') => of_any a 8 cap _ w' ((s8.below hb Qn).more hb.size))
   have R4 := Qh (fun (w' : World) (hb : Below w.heap.size w w') => sread_any a4 l4 k4 _ w' ((f4.below hb Qn).more hb.size) (by omega))
   have hv4 := val4_lt hs.byte 4
   have Hr : Hid (rh bs = if val ((bs.drop 8).take 4) ≠ more 0 (bs.take 8) then (0, 14) else if 1073741824 < val ((bs.drop 4).take 4) then (0, 12) else (val ((bs.drop 4).take 4), 0)) := by
    show _ = _; unfold rh; rw [if_neg (by omega), if_neg (by rw [hm]; exact fun h => h rfl)]
   generalize rh bs = r at Hr ⊢
   generalize val ((bs.drop 8).take 4) = z8 at R8 Hr
   generalize val ((bs.drop 4).take 4) = z4 at R4 Hr hv4
   generalize more 0 (bs.take 8) = zs at OF Hr
   clear f8 f4 s8 s4 hl8 hl4 hs hm hmg
   by_cases h8 : z8 = zs
   · subst h8
     have r1 : ((z8 : Int) != (z8 : Int)) = false := by simp
     have hwz : IntKind.i64.wrap (z4 : Int) = (z4 : Int) := by rw [IntKind.wrap_i64]; omega
     by_cases h30 : z4 ≤ 1073741824
     · have hf := Qh (first_yes (z4 : Int) (by omega) (by omega))
       have hr := Hr.out
       rw [if_neg (by simp), if_neg (by omega)] at hr
       rw [hr]
       clear hr Hr
       go_enter Tryz.func104, Tryz.ntmps104
       go_wp2_with fail
       refine wp_region_held_drew (S := fun w' => Below w.heap.size w w') (by kernel_rfl) (Below.drew Qb) (fun hHeld => ?_)
       refine qi 0 (by assumption) ?_
       iterate 2 (refine qk rfl (by kernel_rfl) (fun _ _ _ h => h) (by intro w hSw; (try dsimp only at hSw); go_simp; all_goals with_reducible rfl) (by (try simp only [Act.put, lz]); rfl) ?_)
       refine qo (qi 3 (by assumption) ?_)
       iterate 2 (refine qk rfl (by kernel_rfl) (fun _ _ _ h => h) (by intro w hSw; (try dsimp only at hSw); go_simp; all_goals with_reducible rfl) (by (try simp only [Act.put, lz]); rfl) ?_)
       refine qo ?_
       refine qr 2 rfl (by kernel_rfl) (fun K hK => ?_)
       rw [if_pos (by rfl)]
       go_simp
       go_at_call 164
       refine R8.out.mono ?_
       rintro e w2 ⟨rfl, hb2⟩
       have hB2 : Below w.heap.size w w2 := below_drew_of hb2
       clear hb2
       refine hK.out _ _ ?_ (fun hHeld => ?_)
       · exact hB2
       clear hK K
       try simp only [Act.put, lz]
       refine qr 5 rfl (by kernel_rfl) (fun K hK => ?_)
       rw [if_pos (by rfl)]
       go_simp
       go_at_call 123
       refine (OF.out _ hB2).mono ?_
       rintro e w3 ⟨rfl, hb3⟩
       have hB3 := hB2.trans (hb3.mono hB2.size)
       clear hb3
       refine hK.out _ _ ?_ (fun hHeld => ?_)
       · exact hB3
       clear hK K
       try simp only [Act.put, lz]
       refine qi 6 (by assumption) ?_
       refine qk rfl (by kernel_rfl) (fun _ _ _ h => h) (by intro w hSw; (try dsimp only at hSw); go_simp; all_goals with_reducible rfl) (by (try simp only [Act.put, lz]); rfl) ?_
       refine qo ?_
       refine wpAnyH_done (by kernel_rfl) ?_ _
       clear hB2 hHeld OF R8
       go_wp2_with (first
        | (go_at_call 164; refine (R4.out _ hB3).mono ?_; rintro e w4 ⟨rfl, hb4⟩)
        | (go_at_call 101; refine (hf.out _).mono ?_; rintro e w5 ⟨rfl, rfl⟩))
       go_ret2
       exact ⟨rfl, hB3.trans (hb4.mono hB3.size)⟩
     have hf := Qh (first_no (z4 : Int) (by omega))
     have hr := Hr.out
     rw [if_neg (by simp), if_pos (by omega)] at hr
     rw [hr]
     clear hr Hr
     go_enter Tryz.func104, Tryz.ntmps104
     go_wp2_with fail
     refine wp_region_held_drew (S := fun w' => Below w.heap.size w w') (by kernel_rfl) (Below.drew Qb) (fun hHeld => ?_)
     refine qi 0 (by assumption) ?_
     iterate 2 (refine qk rfl (by kernel_rfl) (fun _ _ _ h => h) (by intro w hSw; (try dsimp only at hSw); go_simp; all_goals with_reducible rfl) (by (try simp only [Act.put, lz]); rfl) ?_)
     refine qo (qi 3 (by assumption) ?_)
     iterate 2 (refine qk rfl (by kernel_rfl) (fun _ _ _ h => h) (by intro w hSw; (try dsimp only at hSw); go_simp; all_goals with_reducible rfl) (by (try simp only [Act.put, lz]); rfl) ?_)
     refine qo ?_
     refine qr 2 rfl (by kernel_rfl) (fun K hK => ?_)
     rw [if_pos (by rfl)]
     go_simp
     go_at_call 164
     refine R8.out.mono ?_
     rintro e w2 ⟨rfl, hb2⟩
     have hB2 : Below w.heap.size w w2 := below_drew_of hb2
     clear hb2
     refine hK.out _ _ ?_ (fun hHeld => ?_)
     · exact hB2
     clear hK K
     try simp only [Act.put, lz]
     refine qr 5 rfl (by kernel_rfl) (fun K hK => ?_)
     rw [if_pos (by rfl)]
     go_simp
     go_at_call 123
     refine (OF.out _ hB2).mono ?_
     rintro e w3 ⟨rfl, hb3⟩
     have hB3 := hB2.trans (hb3.mono hB2.size)
     clear hb3
     refine hK.out _ _ ?_ (fun hHeld => ?_)
     · exact hB3
     clear hK K
     try simp only [Act.put, lz]
     refine qi 6 (by assumption) ?_
     refine qk rfl (by kernel_rfl) (fun _ _ _ h => h) (by intro w hSw; (try dsimp only at hSw); go_simp; all_goals with_reducible rfl) (by (try simp only [Act.put, lz]); rfl) ?_
     refine qo ?_
     refine wpAnyH_done (by kernel_rfl) ?_ _
     clear hB2 hHeld OF R8
     go_wp2_with (first
      | (go_at_call 164; refine (R4.out _ hB3).mono ?_; rintro e w4 ⟨rfl, hb4⟩)
      | (go_at_call 101; refine (hf.out _).mono ?_; rintro e w5 ⟨rfl, rfl⟩))
     go_ret2
     exact ⟨rfl, hB3.trans (hb4.mono hB3.size)⟩
   have r1 : ((z8 : Int) != (zs : Int)) = true := by simp; omega
   have hr := Hr.out
   rw [if_pos h8] at hr
   rw [hr]
   clear hr Hr h8
   go_enter Tryz.func104, Tryz.ntmps104
   go_wp2_with fail
   refine wp_region_held_drew (S := fun w' => Below w.heap.size w w') (by kernel_rfl) (Below.drew Qb) (fun hHeld => ?_)
   refine qi 0 (by assumption) ?_
   iterate 2 (refine qk rfl (by kernel_rfl) (fun _ _ _ h => h) (by intro w hSw; (try dsimp only at hSw); go_simp; all_goals with_reducible rfl) (by (try simp only [Act.put, lz]); rfl) ?_)
   refine qo (qi 3 (by assumption) ?_)
   iterate 2 (refine qk rfl (by kernel_rfl) (fun _ _ _ h => h) (by intro w hSw; (try dsimp only at hSw); go_simp; all_goals with_reducible rfl) (by (try simp only [Act.put, lz]); rfl) ?_)
   refine qo ?_
   refine qr 2 rfl (by kernel_rfl) (fun K hK => ?_)
   rw [if_pos (by rfl)]
   go_simp
   go_at_call 164
   refine R8.out.mono ?_
   rintro e w2 ⟨rfl, hb2⟩
   have hB2 : Below w.heap.size w w2 := below_drew_of hb2
   clear hb2
   refine hK.out _ _ ?_ (fun hHeld => ?_)
   · exact hB2
   clear hK K
   try simp only [Act.put, lz]
   refine qr 5 rfl (by kernel_rfl) (fun K hK => ?_)
   rw [if_pos (by rfl)]
   go_simp
   go_at_call 123
   refine (OF.out _ hB2).mono ?_
   rintro e w3 ⟨rfl, hb3⟩
   have hB3 := hB2.trans (hb3.mono hB2.size)
   clear hb3
   refine hK.out _ _ ?_ (fun hHeld => ?_)
   · exact hB3
   clear hK K
   try simp only [Act.put, lz]
   refine qi 6 (by assumption) ?_
   refine qk rfl (by kernel_rfl) (fun _ _ _ h => h) (by intro w hSw; (try dsimp only at hSw); go_simp; all_goals with_reducible rfl) (by (try simp only [Act.put, lz]); rfl) ?_
   refine qo ?_
   refine wpAnyH_done (by kernel_rfl) ?_ _
   clear hB2 hHeld OF R8 R4
   go_wp2
   go_ret2
   exact ⟨rfl, hB3⟩
 have hr : rh bs = (0, 12) := by unfold rh; rw [if_neg (by omega), if_pos hm]
 rw [hr]
 have hne : strOf (bs.take 4) ≠ ⟨#[71, 79, 86, 49]⟩ := by
  rw [← hmg]
  exact fun h => hm (strOf_inj s4.byte (by decide) h)
 generalize strOf (bs.take 4) = z at cv hne
 have hq : (z.toList == [71, 79, 86, 49]) = false := by
  have h := ne_toList hne
  rw [show (⟨#[71, 79, 86, 49]⟩ : ByteArray).toList = [71, 79, 86, 49] from by rw [ByteArray.toList_eq]] at h
  exact h
 clear hmg hm s4 hr hne
 go_enter Tryz.func104, Tryz.ntmps104
 go_wp2
 go_ret2
 exact ⟨rfl, Below.refl _ _⟩
theorem rh_ok (bs : List Nat) (h : (rh bs).2 = 0) : (rh bs).1 ≤ 1073741824 ∧ 12 ≤ bs.length := by
 unfold rh at *
 split at h
 · simp at h
 split at h
 · simp at h
 split at h
 · simp at h
 split at h
 · simp at h
 rename_i h1 h2 h3 h4
 rw [if_neg h1, if_neg h2, if_neg h3, if_neg h4]
 exact ⟨by simp only; omega, by omega⟩
theorem segRead_anyB (a : Option Addr) (len cap : Nat) (bs : List Nat) (w : World) (hs : Sl w w.heap.size a len cap bs) (hlen : len ≤ 1100000) :
 Calls Tryz.prog 55 #[.slice a len cap] w fun e w' => ∃ v ts, e = .returned (.tuple #[.int .i64 (((rd bs).1 : Nat) : Int), v, .int .i64 (((rd bs).2.2.1 : Nat) : Int), .int .i64 (((rd bs).2.2.2 : Nat) : Int)]) ∧ OwnF w' w.heap.size v ts ∧ ts.map (·.1) = (rd bs).2.1 ∧ Below w.heap.size w w' ∧ BB w.heap.size ts := by
 have hbl := hs.length
 have RH := Qh (readHead_any a len cap bs w hs)
 have Hrd : Hid (rd bs = if (rh bs).2 ≠ 0 then (0, [], 0, (rh bs).2) else ((rh bs).1, (scan (bs.drop 12) ((rh bs).1 : Int)).1, 12 + (scan (bs.drop 12) ((rh bs).1 : Int)).2, 0)) := rfl
 have hok := rh_ok bs
 generalize rd bs = r at Hrd ⊢
 obtain ⟨⟨f, er⟩, hx⟩ : ∃ x, x = rh bs := ⟨_, rfl⟩
 rw [← hx] at hok RH Hrd
 clear hx
 simp only at hok RH Hrd
 by_cases h0 : er = 0
 · subst h0
   obtain ⟨hf, h12⟩ := hok rfl
   have hr := Hrd.out
   rw [if_neg (by simp)] at hr
   rw [hr]
   clear hr Hrd hok
   have h12' : (12 : Int) ≤ (len : Int) := by omega
   have f12 := hs.from_ (k := 12) (by omega)
   have d12 : ∀ w, (Instr.slice 38 (.slice a len cap) (some (.int .i64 12)) none none).run Tryz.prog w = .ok (.slice (fromA a cap 12) (len - 12) (cap - 12)) w := run_cut_from (P := Tryz.prog) 38 5 Tryz.underlying38 info_u8 a len cap 12 (by omega)
   generalize fromA a cap 12 = a2 at f12 d12
   generalize cap - 12 = k2 at f12 d12
   generalize hl2 : len - 12 = l2 at f12 d12
   have hsl : (scan (bs.drop 12) (f : Int)).2 ≤ 1100000 := by
    have := scan_le (bs.length + 1) (bs.drop 12) (f : Int) (by rw [List.length_drop]; omega)
    rw [List.length_drop] at this
    omega
   have SC := Qh (fun (w' : World) (hb : Below w.heap.size w w') => scan_anyB a2 l2 k2 (bs.drop 12) (f : Int) w' ((f12.below hb Qn).more hb.size) (by omega) (by omega) (by omega))
   generalize scan (bs.drop 12) (f : Int) = sc at SC hsl
   obtain ⟨fs, n⟩ := sc
   simp only at SC hsl ⊢
   clear f12 hl2 hs
   go_enter Tryz.func55, Tryz.ntmps55
   go_wp2_with fail
   refine RH.out.mono ?_
   rintro e w1 ⟨rfl, hb1⟩
   go_wp2_with fail
   refine (SC.out _ hb1).mono ?_
   rintro e w2 ⟨v, ts, rfl, ho, hts, hb2, hbb⟩
   have H := Qh (Qa (ho.mono hb1.size) (Qa hts (Qa (hb1.trans (hb2.mono hb1.size)) (fun t ht b o e => Nat.le_trans hb1.size (hbb t ht b o e) : BB w.heap.size ts))))
   clear ho hts hb2 hb1 hbb SC RH
   have hwn : IntKind.i64.wrap (12 + (n : Int)) = 12 + (n : Int) := by rw [IntKind.wrap_i64]; omega
   go_wp2
   refine bodyPost_ret (v := .tuple #[.int .i64 (f : Int), v, .int .i64 (12 + (n : Int)), .int .i64 0]) (by simp [results, Tryz.results55, go_sem]) (by rfl) ?_
   exact ⟨v, ts, rfl, H.out.1, H.out.2.1, H.out.2.2⟩
 have hr := Hrd.out
 rw [if_pos h0] at hr
 rw [hr]
 clear hr Hrd hok
 have r1 : ((er : Int) != 0) = true := by simp; omega
 go_enter Tryz.func55, Tryz.ntmps55
 go_wp2_with fail
 refine RH.out.mono ?_
 rintro e w1 ⟨rfl, hb1⟩
 have H := Qh hb1
 clear hb1 RH
 go_wp2
 refine bodyPost_ret (v := .tuple #[.int .i64 0, .slice none 0 0, .int .i64 0, .int .i64 (er : Int)]) (by simp [results, Tryz.results55, go_sem]) (by rfl) ?_
 exact ⟨_, [], rfl, OwnF.nil_ _ _, rfl, H.out, fun t ht => by cases ht⟩
end
section
open Go.RowKit Go.Sort Go.Maps
open Crc Frm
open Sgn
attribute [local go_sem] Oper.semAt_some
structure LogC (w : World) (lp dp size : Nat) (g : Lg) (sa : Option Addr) (sc : Nat) : Prop where
 blk : w.heap[lp]? = some (.cells #[.pointer (some ⟨dp, 0, none⟩), .int .i64 (size : Int), .slice sa g.segs.length sc, .int .i64 g.next] 77 (0, 0))
 row : Row w w.heap.size sa g.segs.length sc 1 (intsC g.segs)
 nil_ : sa = none → g.segs.length = 0 ∧ sc = 0
section
variable {w w' : World} {lp dp size : Nat} {g : Lg} {sa : Option Addr} {sc : Nat}
theorem LogC.c0 (h : LogC w lp dp size g sa sc) : w.cell? ⟨lp, 0, none⟩ = some (.pointer (some ⟨dp, 0, none⟩)) := (cell_of_row w lp 0 _ _ _ h.blk).trans rfl
theorem LogC.c1 (h : LogC w lp dp size g sa sc) : w.cell? ⟨lp, 1, none⟩ = some (.int .i64 (size : Int)) := (cell_of_row w lp 1 _ _ _ h.blk).trans rfl
theorem LogC.c2 (h : LogC w lp dp size g sa sc) : w.cell? ⟨lp, 2, none⟩ = some (.slice sa g.segs.length sc) := (cell_of_row w lp 2 _ _ _ h.blk).trans rfl
theorem LogC.c3 (h : LogC w lp dp size g sa sc) : w.cell? ⟨lp, 3, none⟩ = some (.int .i64 g.next) := (cell_of_row w lp 3 _ _ _ h.blk).trans rfl
theorem LogC.z (h : LogC w lp dp size g sa sc) (o : Nat) : w.frozen? ⟨lp, o, none⟩ = false := frozen_of_row w lp o _ _ h.blk
theorem LogC.lt (h : LogC w lp dp size g sa sc) : lp < w.heap.size := lt_of_heap h.blk
theorem LogC.on (h : LogC w lp dp size g sa sc) (hb : Below w.heap.size w w') : LogC w' lp dp size g sa sc := ⟨(hb.block lp h.lt).trans h.blk, (h.row.below hb Qn).more hb.size, h.nil_⟩
theorem LogC.but {O : Nat → Prop} (h : LogC w lp dp size g sa sc) (hb : But O w w') (hl : ¬ O lp) (hs : ∀ k o, sa = some ⟨k, o, none⟩ → ¬ O k) : LogC w' lp dp size g sa sc :=
 ⟨(hb.block lp h.lt hl).trans h.blk, h.row.but hb (fun _ => hs), h.nil_⟩
end
theorem getLastD_getD (l : List Int) : l.getLastD 0 = l.getD (l.length - 1) 0 := by
 rw [List.getLastD_eq_getLast?, List.getLast?_eq_getElem?, List.getD_eq_getElem?_getD]
def lO (D : Nat → Prop) (lp : Nat) (sa : Option Addr) (k : Nat) : Prop := D k ∨ k = lp ∨ ∃ o, sa = some ⟨k, o, none⟩
structure LK (w0 w : World) (dp lp size : Nat) (g : Lg) (t : St) (D : Nat → Prop) (sa : Option Addr) (sc : Nat) : Prop where
 dk : DK w0 w dp t D
 at_ : LogC w lp dp size g sa sc
 base : w0.heap.size ≤ lp
 own : ¬ D lp
 far : ∀ k o, sa = some ⟨k, o, none⟩ → ¬ D k ∧ k ≠ lp ∧ w0.heap.size ≤ k ∧ k < w.heap.size
def LMv (w0 w : World) (dp lp size : Nat) (O : Nat → Prop) (g : Lg) (t : St) (w' : World) : Prop :=
 ∃ D' sa' sc', LK w0 w' dp lp size g t D' sa' sc' ∧ But O w w' ∧ ∀ k, lO D' lp sa' k → O k ∨ w.heap.size ≤ k
section
variable {w0 w w' : World} {dp lp size : Nat} {g : Lg} {t t' : St} {D : Nat → Prop} {sa : Option Addr} {sc : Nat}
theorem LK.on (h : LK w0 w dp lp size g t D sa sc) (hb : Below w.heap.size w w') : LK w0 w' dp lp size g t D sa sc :=
 ⟨h.dk.on hb, h.at_.on hb, h.base, h.own, fun k o e => by obtain ⟨h1, h2, h3, h4⟩ := h.far k o e; exact ⟨h1, h2, h3, Nat.lt_of_lt_of_le h4 hb.size⟩⟩
theorem LK.lt (h : LK w0 w dp lp size g t D sa sc) : ∀ k, lO D lp sa k → k < w.heap.size := fun k hk => by
 rcases hk with h1 | rfl | ⟨o, h1⟩
 · exact h.dk.lt k h1
 · exact h.at_.lt
 exact (h.far k o h1).2.2.2
theorem LK.ge (h : LK w0 w dp lp size g t D sa sc) : ∀ k, lO D lp sa k → w0.heap.size ≤ k := fun k hk => by
 rcases hk with h1 | rfl | ⟨o, h1⟩
 · exact h.dk.base k h1
 · exact h.base
 exact (h.far k o h1).2.2.1
theorem LK.laid (h : LK w0 w dp lp size g t D sa sc) (hL : Laid w0) : Laid w := hL.on h.dk.below
theorem LK.but (h : LK w0 w dp lp size g t D sa sc) {D' : Nat → Prop} (hd : DK w0 w' dp t' D') (hb : But D w w') (hD : ∀ k, D' k → D k ∨ w.heap.size ≤ k) : LK w0 w' dp lp size g t' D' sa sc :=
 ⟨hd, h.at_.but hb h.own (fun k o e => (h.far k o e).1), h.base, fun ho => by rcases hD lp ho with h1 | h1; exact h.own h1; have := h.at_.lt; omega,
  fun k o e => by
   obtain ⟨h1, h2, h3, h4⟩ := h.far k o e
   exact ⟨fun ho => by rcases hD k ho with h5 | h5; exact h1 h5; omega, h2, h3, Nat.lt_of_lt_of_le h4 hb.size⟩⟩
theorem LK.mv (h : LK w0 w dp lp size g t D sa sc) (hm : Mv w0 w dp D t' w') : LMv w0 w dp lp size (lO D lp sa) g t' w' := by
 obtain ⟨D', h1, h2, h3⟩ := hm
 exact ⟨D', sa, sc, h.but h1 h2 h3, h2.more (fun k hk => .inl hk), fun k hk => by
  rcases hk with h4 | h4
  · rcases h3 k h4 with h5 | h5
    · exact .inl (.inl h5)
    exact .inr h5
  exact .inl (.inr h4)⟩
theorem LK.still (h : LK w0 w dp lp size g t D sa sc) (hb : Below w.heap.size w w') : LMv w0 w dp lp size (lO D lp sa) g t w' :=
 ⟨D, sa, sc, h.on hb, But.of_below hb, fun _ hk => .inl hk⟩
theorem LMv.then {w1 : World} {O O1 : Nat → Prop} (hb : But O w w1) (hO : ∀ k, O1 k → O k ∨ w.heap.size ≤ k) (h : LMv w0 w1 dp lp size O1 g t w') : LMv w0 w dp lp size O g t w' := by
 obtain ⟨D', sa', sc', h1, h2, h3⟩ := h
 exact ⟨D', sa', sc', h1, hb.trans h2 hO, fun k hk => by rcases h3 k hk with h4 | h4; exact hO k h4; exact .inr (Nat.le_trans hb.size h4)⟩
end
theorem nm_short (n : Int) : (nm n).length ≤ 11 := by
 unfold nm
 split
 · rename_i h
   have := itoa_len h.1 h.2
   simp [Lib.repeatL_length]
   omega
 simp
theorem nmS_size (n : Int) : ByteArray.size ⟨(nm n).toArray⟩ ≤ 11 := nm_short n
theorem last_any {w : World} {lp dp size : Nat} {g : Lg} {sa : Option Addr} {sc : Nat} (h : LogC w lp dp size g sa sc) (hne : g.segs ≠ []) (hL : Laid w) :
 Calls Tryz.prog 72 #[.pointer (some ⟨lp, 0, none⟩)] w fun e w' => e = .returned (.string ⟨(lgLast g).toArray⟩) ∧ Below w.heap.size w w' := by
 have hlen : 0 < g.segs.length := List.length_pos_iff.2 hne
 obtain ⟨b, o, rfl, hb, hc⟩ := h.row.at_ hlen
 have hmx := h.row.le
 have hmx2 := h.row.max
 unfold maxLen at hmx2
 have c2 := h.c2
 obtain ⟨n, hn⟩ : ∃ n, n = g.segs.length := ⟨_, rfl⟩
 obtain ⟨m, hm⟩ : ∃ m, m = n - 1 := ⟨_, rfl⟩
 have hv : g.segs.getD m 0 = g.segs.getLastD 0 := by rw [getLastD_getD, hm, hn]
 have cm : w.cell? ⟨b, o + m, none⟩ = some (.int .i64 (g.segs.getLastD 0)) := (hc m (by omega)).trans (by show some (Value.int .i64 (g.segs.getD m 0)) = _; rw [hv])
 rw [← hn] at c2 hlen hmx
 have h0 : (0 : Int) ≤ (m : Int) := by omega
 have h1 : (m : Int) < (n : Int) := by omega
 have hw : IntKind.i64.wrap ((n : Int) - 1) = (m : Int) := by rw [IntKind.wrap_i64]; omega
 have HN := Qh (fun x (hb : Below w.heap.size w x) => name_any (g.segs.getLastD 0) x (hL.on hb))
 have hlg : Hid (lgLast g = nm (g.segs.getLastD 0)) := rfl
 generalize g.segs.getLastD 0 = v at *
 clear hc hv hn hm h hL hne hb hmx hmx2
 go_enter Tryz.func72, Tryz.ntmps72
 go_wp2_with fail
 refine wp_region_held_drew (S := fun x => x.cell? ⟨lp, 2, none⟩ = some (.slice (some ⟨b, o, none⟩) n sc) ∧ x.cell? ⟨b, o + m, none⟩ = some (.int .i64 v) ∧ Below w.heap.size w x) (by kernel_rfl) ⟨c2, cm, Below.drew Qb⟩ (fun hHeld => ?_)
 refine qi 0 (by assumption) ?_
 iterate 12 (refine qk rfl (by kernel_rfl) (fun _ _ _ h => h) (by intro w hSw; (try dsimp only at hSw); go_simp; all_goals with_reducible rfl) (by (try simp only [Act.put, lz]); rfl) ?_)
 refine qo ?_
 refine qr 12 rfl (by kernel_rfl) (fun K hK => ?_)
 rw [if_pos (by rfl)]
 go_simp
 go_at_call 54
 refine (HN.out _ (Below.drew Qb)).mono ?_
 rintro e w2 ⟨rfl, hb2⟩
 have B2 : Below w.heap.size w w2 := below_drew_of hb2
 clear hb2
 refine hK.out _ _ ?_ (fun hHeld => ?_)
 · exact ⟨(B2.cell (p := ⟨lp, 2, none⟩) (block_lt_of_cell c2)).trans c2, (B2.cell (p := ⟨b, o + m, none⟩) (block_lt_of_cell cm)).trans cm, B2⟩
 clear hK K
 try simp only [Act.put, lz]
 refine qi 13 (by assumption) ?_
 refine qk rfl (by kernel_rfl) (fun _ _ _ h => h) (by intro w hSw; (try dsimp only at hSw); go_simp; all_goals with_reducible rfl) (by (try simp only [Act.put, lz]); rfl) ?_
 refine qo ?_
 refine wpAnyH_done (by kernel_rfl) ?_ _
 go_wp2
 go_ret
 exact ⟨by rw [hlg.out]; rfl, B2⟩
end
section
open Go.RowKit Go.Sort Go.Maps
open Crc Frm
open Sgn
attribute [local go_sem] Oper.semAt_some
theorem lturn_any (n : Nat) (fs : Nat → FuncId) (ps cs : Nat → Array Value) (g : Nat) (w : World) (J : Nat → World → Prop) (R : Int → World → Prop) (hn : n ≤ 1000)
 (hcell : ∀ k w', k < n → J k w' → w'.cell? ⟨g, k, none⟩ = some (.func (.func (fs k)) (ps k) (cs k)))
 (hc : ∀ k x, k < n → (callFunc (fs k) (ps k ++ cs k)).run Tryz.prog x = .ok (.enter (fs k) (ps k ++ cs k)) x)
 (hcall : ∀ k w', k < n → J k w' → Calls Tryz.prog (fs k) (ps k ++ cs k) w' fun e w'' => ∃ x, e = .returned (.int .i64 x) ∧ (x = 0 → J (k + 1) w'') ∧ (x ≠ 0 → R x w''))
 (hend : ∀ w', J n w' → R 0 w') (h0 : J 0 w) :
 Calls Tryz.prog 31 #[.slice (some ⟨g, 0, none⟩) n n] w fun e w' => ∃ x, e = .returned (.int .i64 x) ∧ R x w' := by
 have HC := Qh hcell
 have HL := Qh hcall
 have HE := Qh hend
 have HF := Qh hc
 have H0 := Qh h0
 clear hcell hc hcall hend h0
 go_enter Tryz.func31, Tryz.ntmps31
 go_wp2_with fail
 go_loopw [4, 5, 8] (fun _ _ i wr => ∃ k : Nat, k ≤ n ∧ i = .int .i64 (k : Int) ∧ J k wr) (fun _ _ i _ => n - (intOf i).toNat)
 case atStart => exact ⟨0, Nat.zero_le _, rfl, H0.out⟩
 case round =>
  obtain ⟨k, hk, rfl, hj⟩ := hrel
  by_cases hlt : k < n
  · have c0 := HC.out k wr hlt hj
    have cf := fun x => HF.out k x hlt
    have CL := Qh (HL.out k wr hlt hj)
    have c1 : wr.cell? ⟨g, 0 + k, none⟩ = some (.func (.func (fs k)) (ps k) (cs k)) := by rw [Nat.zero_add]; exact c0
    clear hj
    generalize fs k = fk at *
    generalize ps k = pk at *
    generalize cs k = ck at *
    go_wp2_with fail
    refine CL.out.mono ?_
    rintro e w1 ⟨x, rfl, hx0, hx1⟩
    have X0 := Qh hx0
    have X1 := Qh hx1
    clear hx0 hx1 CL c0 c1 cf
    by_cases hx : x = 0
    · subst hx
      go_wp2
      go_roundw
      case rel => exact ⟨k + 1, by omega, by go_num, X0.out (by trivial)⟩
      case measure => simp [intOf]; omega
    go_wp2
    go_ret
    exact ⟨x, rfl, X1.out hx⟩
  have hkn : k = n := by omega
  subst hkn
  have HJ := Qh hj
  clear hj
  go_wp2
  go_ret
  exact ⟨0, rfl, HE.out _ HJ.out⟩
theorem below_drews {B : Nat} {a w : World} {n : Nat} (h : Below B a w) : Below B a (w.drewN n) := ⟨h.os, h.tape, h.output, h.size, h.block⟩
theorem bytes_le {t : St} (h : Good t.D t.room) (s : List UInt8) : (t.bytes s).length ≤ 1048576 := by
 unfold St.bytes
 cases hf : fat t.D s with
 | none => simp [Fl.zero]
 | some f => have := (h.at_ hf).2.2.2; have := h.tot_; have := h.room_; simp; omega
section
variable {w0 w : World} {dp lp size : Nat} {g : Lg} {t : St} {D : Nat → Prop} {sa : Option Addr} {sc : Nat}
theorem lsync_any (h : LK w0 w dp lp size g t D sa sc) (hne : g.segs ≠ []) (hL : Laid w0) :
 Calls Tryz.prog 26 #[.pointer (some ⟨lp, 0, none⟩)] w fun e w' => e = .returned (.int .i64 (lgSync g t).1) ∧ LMv w0 w dp lp size (lO D lp sa) g (lgSync g t).2 w' := by
 have c0 := h.at_.c0
 have hlt := h.at_.lt
 have hown := h.own
 have LA := Qh (fun x (hb : Below w.heap.size w x) => last_any (h.at_.on hb) hne ((h.laid hL).on hb))
 have H := Qh h
 have hsy : Hid (lgSync g t = t.sync (lgLast g)) := rfl
 have hsz := nmS_size (g.segs.getLastD 0)
 change ByteArray.size ⟨(lgLast g).toArray⟩ ≤ 11 at hsz
 clear h hL hne
 go_enter Tryz.func26, Tryz.ntmps26
 go_wp2_with fail
 refine wp_region_held_drew (S := fun x => x.cell? ⟨lp, 0, none⟩ = some (.pointer (some ⟨dp, 0, none⟩))) (by kernel_rfl) c0 (fun hHeld => ?_)
 refine qi 0 (by assumption) ?_
 iterate 5 (refine qk rfl (by kernel_rfl) (fun _ _ _ h => h) (by intro w hSw; (try dsimp only at hSw); go_simp; all_goals with_reducible rfl) (by (try simp only [Act.put, lz]); rfl) ?_)
 refine qo ?_
 refine qr 5 rfl (by kernel_rfl) (fun K hK => ?_)
 rw [if_pos (by rfl)]
 go_simp
 go_at_call 72
 refine (LA.out _ (Below.drew Qb)).mono ?_
 rintro e w2 ⟨rfl, hb2⟩
 have B2 : Below w.heap.size w w2 := below_drew_of hb2
 clear hb2
 have c02 := (B2.cell (p := ⟨lp, 0, none⟩) hlt).trans c0
 refine hK.out _ _ ?_ (fun hHeld => ?_)
 · exact c02
 clear hK K
 try simp only [Act.put, lz]
 refine qr 6 rfl (by kernel_rfl) (fun K hK => ?_)
 rw [if_pos (by rfl)]
 go_simp
 go_at_call 59
 refine ((H.out.on B2).dk.sync ⟨(lgLast g).toArray⟩ (by omega)).mono ?_
 rintro e w3 ⟨rfl, hm⟩
 have hm2 := (H.out.on B2).mv hm
 obtain ⟨D3, k3, b3, d3⟩ := hm
 refine hK.out _ _ ?_ (fun hHeld => ?_)
 · exact (b3.cell (b := lp) (o := 0) (Nat.lt_of_lt_of_le hlt B2.size) hown).trans c02
 clear hK K
 try simp only [Act.put, lz]
 refine qi 7 (by assumption) ?_
 refine qk rfl (by kernel_rfl) (fun _ _ _ h => h) (by intro w hSw; (try dsimp only at hSw); go_simp; all_goals with_reducible rfl) (by (try simp only [Act.put, lz]); rfl) ?_
 refine qo ?_
 refine wpAnyH_done (by kernel_rfl) ?_ _
 go_wp2
 go_ret
 exact ⟨by rw [hsy.out]; rfl, by rw [hsy.out]; exact LMv.then (But.of_below B2) (fun _ hk => .inl hk) hm2⟩
theorem isFull_any (h : LK w0 w dp lp size g t D sa sc) (hne : g.segs ≠ []) (hL : Laid w0) (more : Nat) (hmore : more ≤ 1000000000) (hsize : size ≤ 1000000000) :
 Calls Tryz.prog 124 #[.pointer (some ⟨lp, 0, none⟩), .int .i64 (more : Int)] w fun e w' => e = .returned (.bool (lgFull size g t more)) ∧ Below w.heap.size w w' := by
 have c0 := h.at_.c0
 have hlt := h.at_.lt
 have hown := h.own
 have LA := Qh (fun x (hb : Below w.heap.size w x) => last_any (h.at_.on hb) hne ((h.laid hL).on hb))
 have H := Qh h
 have hfu : Hid (lgFull size g t more = (decide (g.segs.getLastD 0 < g.next) && decide (size < (t.bytes (lgLast g)).length + more))) := rfl
 have hsz := nmS_size (g.segs.getLastD 0)
 change ByteArray.size ⟨(lgLast g).toArray⟩ ≤ 11 at hsz
 have hlen : 0 < g.segs.length := List.length_pos_iff.2 hne
 have hby := Qh (fat_byte h.dk.good (lgLast g))
 have hbl := bytes_le h.dk.good (lgLast g)
 clear h hL hne
 go_enter Tryz.func124, Tryz.ntmps124
 go_wp2_with fail
 refine wp_region_held_drew (S := fun x => x.cell? ⟨lp, 0, none⟩ = some (.pointer (some ⟨dp, 0, none⟩))) (by kernel_rfl) c0 (fun hHeld => ?_)
 refine qi 0 (by assumption) ?_
 iterate 5 (refine qk rfl (by kernel_rfl) (fun _ _ _ h => h) (by intro w hSw; (try dsimp only at hSw); go_simp; all_goals with_reducible rfl) (by (try simp only [Act.put, lz]); rfl) ?_)
 refine qo ?_
 refine qr 5 rfl (by kernel_rfl) (fun K hK => ?_)
 rw [if_pos (by rfl)]
 go_simp
 go_at_call 72
 refine (LA.out _ (Below.drew Qb)).mono ?_
 rintro e w2 ⟨rfl, hb2⟩
 have B2 : Below w.heap.size w w2 := below_drew_of hb2
 clear hb2
 have c02 := (B2.cell (p := ⟨lp, 0, none⟩) hlt).trans c0
 refine hK.out _ _ ?_ (fun hHeld => ?_)
 · exact c02
 clear hK K
 try simp only [Act.put, lz]
 refine qr 6 rfl (by kernel_rfl) (fun K hK => ?_)
 rw [if_pos (by rfl)]
 go_simp
 go_at_call 50
 refine ((H.out.on B2).dk.read ⟨(lgLast g).toArray⟩ (by unfold maxLen; omega)).mono ?_
 rintro e w3 hN
 change NewBytes w2 (t.bytes (lgLast g)) (fat t.D (lgLast g)).isSome _ _ at hN
 change Hid (∀ c ∈ t.bytes (lgLast g), c < 256) at hby
 generalize t.bytes (lgLast g) = bs at *
 generalize (fat t.D (lgLast g)).isSome = is at *
 obtain ⟨a3, n3, rfl, s3, _, b3⟩ := NewBytes.out (H.out.on B2).dk hN hby.out
 have B3 := B2.trans (b3.mono B2.size)
 have hmx := s3.max
 have hle := s3.le
 unfold maxLen at hmx
 clear s3 hN
 generalize bs.length = q at *
 refine hK.out _ _ ?_ (fun hHeld => ?_)
 · exact (b3.cell (p := ⟨lp, 0, none⟩) (Nat.lt_of_lt_of_le hlt B2.size)).trans c02
 clear hK K
 try simp only [Act.put, lz]
 refine qi 7 (by assumption) ?_
 iterate 5 (refine qk rfl (by kernel_rfl) (fun _ _ _ h => h) (by intro w hSw; (try dsimp only at hSw); go_simp; all_goals with_reducible rfl) (by (try simp only [Act.put, lz]); rfl) ?_)
 refine qo ?_
 refine wpAnyH_done (by kernel_rfl) ?_ _
 have H3 := (H.out.on B3).at_
 have d1 := H3.c1
 have d2 := H3.c2
 have d3 := H3.c3
 obtain ⟨b, o, rfl, hb, hc⟩ := H3.row.at_ hlen
 have hrm := H3.row.max
 have hrl := H3.row.le
 unfold maxLen at hrm
 obtain ⟨n, hn⟩ : ∃ n, n = g.segs.length := ⟨_, rfl⟩
 obtain ⟨m, hm⟩ : ∃ m, m = n - 1 := ⟨_, rfl⟩
 have cm : w3.cell? ⟨b, o + m, none⟩ = some (.int .i64 (g.segs.getLastD 0)) := (hc m (by omega)).trans (by show some (Value.int .i64 (g.segs.getD m 0)) = _; rw [getLastD_getD, hm, hn])
 rw [← hn] at d2 hlen hrl
 have h0 : (0 : Int) ≤ (m : Int) := by omega
 have h1 : (m : Int) < (n : Int) := by omega
 have hw : IntKind.i64.wrap ((n : Int) - 1) = (m : Int) := by rw [IntKind.wrap_i64]; omega
 have hwq : IntKind.i64.wrap ((q : Int) + (more : Int)) = (q : Int) + (more : Int) := by rw [IntKind.wrap_i64]; omega
 generalize g.segs.getLastD 0 = v at *
 clear H3 hc hb hn hm hrm hrl c0 c02 hlt hown LA hHeld b3 hsz hlen hmx hle
 by_cases hv : v < g.next
 · have e1 : decide (v < g.next) = true := by simpa using hv
   by_cases hs : size < q + more
   · have hs' : (size : Int) < (q : Int) + (more : Int) := by omega
     have e2 : decide ((size : Int) < (q : Int) + (more : Int)) = true := by simpa using hs'
     have hres : Hid (lgFull size g t more = true) := by show _ = _; rw [hfu.out, e1]; simpa using hs
     go_wp2_with fail
     go_quiet (fail)
     go_wp2
     go_ret
     exact ⟨by rw [hres.out]; rfl, below_drews B3⟩
   have hs' : (q : Int) + (more : Int) ≤ (size : Int) := by omega
   have e2 : decide ((size : Int) < (q : Int) + (more : Int)) = false := by simpa using hs'
   have hres : Hid (lgFull size g t more = false) := by show _ = _; rw [hfu.out, e1]; simpa using hs
   go_wp2_with fail
   go_quiet (fail)
   go_wp2
   go_ret
   exact ⟨by rw [hres.out]; rfl, below_drews B3⟩
 have hv' : g.next ≤ v := by omega
 have e1 : decide (v < g.next) = false := by simpa using hv
 have hres : Hid (lgFull size g t more = false) := by show _ = _; rw [hfu.out, e1]; rfl
 go_wp2_with fail
 go_quiet (fail)
 go_wp2
 go_ret
 exact ⟨by rw [hres.out]; rfl, below_drews B3⟩
end
end
section
open Go.RowKit
section
variable {F : Fence} {n : Nat} {P : Program} {w : World}
structure LoopAt (D : Nat) (r : Loop) (W : World) : Prop where
 own : W.heap[D + 1]? = some (.loop r)
 shut : W.heap[D]? = some (.deferred (some []))
theorem LoopAt.lt {D : Nat} {r : Loop} {X : World} (h : LoopAt D r X) : D + 1 < X.heap.size := (Array.getElem?_eq_some_iff.1 h.own).1
theorem LoopAt.put {D : Nat} {r : Loop} {X : World} (h : LoopAt D r X) (r' : Loop) : LoopAt D r' (X.putObj (D + 1) (.loop r')) := ⟨World.putObj_heap_same h.lt, (World.putObj_heap_other (by omega)).trans h.shut⟩
end
end
section
open Go.RowKit
section
variable {F : Fence} {n : Nat} {P : Program} {w : World}
def TellsU {α β : Type} (F : Fence) (n : Nat) (P : Program) (gf : Nat) (lb : Array Value) (encs : α → Array Value) (M : α → Prop) (U : List α → β → World → Prop) (Kp : β → World → β → World → Prop) (S Sp : List α → Prop) (w : World) : Prop :=
 ∀ (l : Nat) (J : List α → β → World → Prop) (Jx : List α → World → Prop) (W : World) (d0 : β), Below w.heap.size w W → w.heap.size + 2 ≤ W.heap.size → (∀ s d X Y, J s d X → Below X.heap.size X Y → J s d Y) → (∀ s d X, J s d X → U s d X) →
  (∀ pre d x X, J pre d X → M x → YieldAt F (n - 1) P l (encs x) X fun e Y => (e = .returned (.bool true) ∧ ∃ d', J (pre ++ [x]) d' Y ∧ Kp d X d' Y) ∨ (e = .returned (.bool false) ∧ Jx (pre ++ [x]) Y)) → J [] d0 W →
  CallsIn F n P gf (#[.func (.yield l) #[] #[]] ++ lb) W fun e Y => (∃ v, e = .returned v) ∧ ((∃ xs d, S xs ∧ J xs d Y) ∨ (∃ pre, Sp pre ∧ Jx pre Y))
def KeepsL (D : Nat) (X Y : World) : Prop := Y.heap[D]? = X.heap[D]? ∧ Y.heap[D + 1]? = X.heap[D + 1]?
def postU {α β : Type} (D : Nat) (I : List α → β → World → Prop) (Kp : β → World → β → World → Prop) (d : β) (Ix : Code → List α → World → Prop) (xs : List α) (W : World) : Exit → Act → World → Prop
 | .normal, _, W' => KeepsL D W W' ∧ ∃ d', I xs d' W' ∧ Kp d W d' W'
 | .ret, _, W' => KeepsL D W W' ∧ Ix .ret xs W'
 | .exit id, _, W' => KeepsL D W W' ∧ Ix (.exit id) xs W'
 | .goto t, _, W' => KeepsL D W W' ∧ Ix (.goto t) xs W'
 | .panic _, _, _ => False
 | .outgrown, _, _ => False
theorem LoopAt.keptL {D : Nat} {r : Loop} {X Y : World} (h : LoopAt D r X) (hk : KeepsL D X Y) : LoopAt D r Y := ⟨hk.2.trans h.own, hk.1.trans h.shut⟩
theorem LoopAt.onB {D : Nat} {r : Loop} {X Y : World} (h : LoopAt D r X) (hb : Below X.heap.size X Y) : LoopAt D r Y :=
 ⟨(hb.block _ h.lt).trans h.own, (hb.block _ (by have := h.lt; omega)).trans h.shut⟩
theorem range_tellsU {α β : Type} {g : Operand} {ps : Array Tmp} {assign body : Code} {Q : Exit → Act → World → Prop} {a : Act}
 (hro : F.round = none) (h1 : 1 ≤ n) {gf : Nat} {lb : Array Value} (hg : a.eval g = .func (.func gf) #[] lb) (hF : F.fn gf) (eg : ∀ args w, (callFunc gf args).run P w = .ok (.enter gf args) w)
 {encs : α → Array Value} {M : α → Prop} {U : List α → β → World → Prop} {Kp : β → World → β → World → Prop} {S Sp : List α → Prop} (hseq : TellsU F (n - 1) P gf lb encs M U Kp S Sp w) (hps : ∀ x, (encs x).size = ps.size)
 (I : List α → β → World → Prop) (Ix : Code → List α → World → Prop) (d0 : β) (hI : ∀ pre d X Y, I pre d X → Below X.heap.size X Y → I pre d Y)
 (hI2 : ∀ pre d X r o, I pre d X → X.heap[w.heap.size + 1]? = some (.loop r) → I pre d (X.putObj (w.heap.size + 1) o)) (hKp : ∀ d X d' Y o o', Kp d (X.putObj (w.heap.size + 1) o) d' Y → Kp d X d' (Y.putObj (w.heap.size + 1) o')) (hIx2 : ∀ c pre X r o, Ix c pre X → X.heap[w.heap.size + 1]? = some (.loop r) → Ix c pre (X.putObj (w.heap.size + 1) o))
 (hU : ∀ pre d X, I pre d X → U pre d X) (h0 : I [] d0 w) (Ax : α → Act)
 (hassign : ∀ (l : Nat) (pre : List α) (d : β) (x : α) (W : World) (K : Act → World → Prop), I pre d W → M x → K (Ax x) W →
  assign.wpIn (F.inRound l) (n - 1 - 1) P (Exit.then K (fun _ _ _ => False)) { tmps := (ps.zip (encs x)).foldl (fun t (p, v) => t.setIfInBounds p v) a.tmps, defers := [] } W)
 (hbody : ∀ (l : Nat) (pre : List α) (d : β) (x : α) (W : World), I pre d W → M x → w.heap.size + 2 ≤ W.heap.size → body.wpIn (F.inRound l) (n - 1 - 1) P (postU w.heap.size I Kp d Ix (pre ++ [x]) W) (Ax x) W)
 (hdone : ∀ (xs : List α) (d : β) (W : World), S xs → I xs d W → W.heap[w.heap.size]? = some (.deferred (some [])) → Q .normal { a with defers := { target := .collected w.heap.size, args := #[] } :: a.defers } W)
 (hstop : ∀ (c : Code) (pre : List α) (W : World), Sp pre → Ix c pre W → W.heap[w.heap.size]? = some (.deferred (some [])) → c.wpIn F n P Q { a with defers := { target := .collected w.heap.size, args := #[] } :: a.defers } W) :
 (Code.rangeFunc g ps assign body).wpIn F n P Q a w := by
 refine wpIn_rangeFunc fun fn hfn => ?_
 rw [hro]
 obtain ⟨R, hR⟩ : ∃ R : LoopState → Option Code → Loop, R = fun s p => { state := s, pending := p, fn, tmps := a.tmps, params := ps, assign, body, defers := w.heap.size } := ⟨_, rfl⟩
 obtain ⟨V, hV⟩ : ∃ V, V = (w.alloc (.deferred (some []))).alloc (.loop (R .ready none)) := ⟨_, rfl⟩
 have hL : LoopAt w.heap.size (R .ready none) V := by
  rw [hV]
  refine ⟨?_, (Below.heap_alloc _ _ _ (by simp)).trans (World.alloc_heap_new w _)⟩
  have := World.alloc_heap_new (w.alloc (.deferred (some []))) (.loop (R .ready none))
  rwa [World.size_alloc] at this
 have hbV : Below w.heap.size w V := by rw [hV]; exact ((Below.refl _ w).alloc Qn _).alloc (by simp) _
 have hIV : I [] d0 V := hI _ _ _ _ h0 hbV
 refine ⟨w.heap.size + 1, [{ target := .collected w.heap.size, args := #[] }], V, { target := .fn (.func gf) lb, args := #[.func (.yield (w.heap.size + 1)) #[] #[]] }, V, gf, #[.func (.yield (w.heap.size + 1)) #[] #[]] ++ lb, V, ?_, ?_, ?_, ?_, fun _ => h1, ?_⟩
 · rw [hV, hR]; exact run_enterLoop_outer _ _ _ _ _
 · simp only [resolve, hg]; simp [go_sem]
 · intro f' hf'; simp [Target.leads] at hf'; subst hf'; exact hF
 · simp [invoke, go_sem, eg]
 refine (hseq (w.heap.size + 1) (fun pre d W => I pre d W ∧ LoopAt w.heap.size (R .ready none) W) (fun pre W => ∃ c, Ix c pre W ∧ LoopAt w.heap.size (R .done (some c)) W) V d0 hbV (by rw [hV]; simp)
  (fun s d X Y h hb => ⟨hI s d X Y h.1 hb, h.2.onB hb⟩) (fun s d X h => hU s d X h.1) ?_ ⟨hIV, hL⟩).mono ?_
 · rintro pre d x X ⟨hi, hX⟩ hm
   have hy := run_yield (P := P) (args := encs x) hX.own (by rw [hR]; exact hps x)
   rw [hR] at hy
   refine ⟨fn, _, assign, body, hy, roundIn_of_wpIn hfn (hassign _ pre d x X _ hi hm ?_)⟩
   clear hy
   refine ⟨_, run_beginRound hX.own (by rw [hR]), ?_⟩
   have hZ := hX.put { R .ready none with state := .busy }
   refine wpIn_mono (hbody _ pre d x _ (hI2 _ _ _ _ _ hi hX.own) hm hZ.lt) ?_
   have fin : ∀ (jump : Option Code) (U : World), KeepsL w.heap.size (X.putObj (w.heap.size + 1) (.loop { R .ready none with state := .busy })) U →
    (Instr.endRound (w.heap.size + 1) jump).run P U = .ok (.bool jump.isNone) (U.putObj (w.heap.size + 1) (.loop (R (if jump.isNone then .ready else .done) jump))) ∧ LoopAt w.heap.size { R .ready none with state := .busy } U ∧
    LoopAt w.heap.size (R (if jump.isNone then .ready else .done) jump) (U.putObj (w.heap.size + 1) (.loop (R (if jump.isNone then .ready else .done) jump))) := fun jump U hk => by
    have hU := hZ.keptL hk
    have := run_endRound (P := P) jump hU.own
    refine ⟨?_, hU, hU.put _⟩
    rw [hR] at this ⊢
    exact this
   rintro e a3 U hp
   match e, hp with
   | .normal, ⟨p1, d', p3, p4⟩ =>
    obtain ⟨q1, q2, q3⟩ := fin none U p1
    exact ⟨_, _, q1, .inl ⟨rfl, d', ⟨hI2 _ _ _ _ _ p3 q2.own, q3⟩, hKp _ _ _ _ _ _ p4⟩⟩
   | .ret, ⟨p1, p3⟩ =>
    obtain ⟨q1, q2, q3⟩ := fin (some .ret) U p1
    exact ⟨_, _, q1, .inr ⟨rfl, .ret, hIx2 _ _ _ _ _ p3 q2.own, q3⟩⟩
   | .exit id, ⟨p1, p3⟩ =>
    obtain ⟨q1, q2, q3⟩ := fin (some (.exit id)) U p1
    exact ⟨_, _, q1, .inr ⟨rfl, .exit id, hIx2 _ _ _ _ _ p3 q2.own, q3⟩⟩
   | .goto t, ⟨p1, p3⟩ =>
    obtain ⟨q1, q2, q3⟩ := fin (some (.goto t)) U p1
    exact ⟨_, _, q1, .inr ⟨rfl, .goto t, hIx2 _ _ _ _ _ p3 q2.own, q3⟩⟩
 rintro e U ⟨⟨v, rfl⟩, h⟩
 have last : ∀ {s : LoopState} {p : Option Code}, LoopAt w.heap.size (R s p) U → s ≠ .busy → (Instr.endLoop (w.heap.size + 1)).run P U = .ok p (U.putObj (w.heap.size + 1) (.loop { R s p with state := .exhausted })) := fun {s p} h hs => by
  have := run_endLoop (P := P) h.own (by rw [hR]; exact hs)
  rw [hR] at this ⊢
  exact this
 rcases h with ⟨xs, d, hS, hi, hU⟩ | ⟨pre, hSp, c, hi, hU⟩
 · exact ⟨none, _, last hU (by simp), hdone xs d _ hS (hI2 _ _ _ _ _ hi hU.own) ((World.putObj_heap_other (by omega)).trans hU.shut)⟩
 exact ⟨some c, _, last hU (by simp), hstop c pre _ hSp (hIx2 _ _ _ _ _ hi hU.own) ((World.putObj_heap_other (by omega)).trans hU.shut)⟩
end
abbrev encS (x : List UInt8) : Array Value := #[.string ⟨x.toArray⟩]
abbrev shortS (x : List UInt8) : Prop := x.length ≤ 281474976710656
end
section
open Go.RowKit Go.Sort Go.Maps Go.Shelf
open Crc Frm
open Sgn
attribute [local go_sem] Oper.semAt_some
def delRun : List (List UInt8) → St → St
 | [], t => t
 | s :: l, t => delRun l (t.delete s).2
theorem delRun_snoc (l : List (List UInt8)) (s : List UInt8) (t : St) : delRun (l ++ [s]) t = ((delRun l t).delete s).2 := by
 induction l generalizing t with
 | nil => rfl
 | cons x l ih => exact ih _
theorem delAll_snoc (l : List (List UInt8)) (s : List UInt8) (t : St) : delAll (l ++ [s]) t = thenSt (delAll l t) fun t => t.delete s := by
 induction l generalizing t with
 | nil =>
  show thenSt (t.delete s) (fun t => (0, t)) = t.delete s
  unfold thenSt
  split
  · rfl
  rename_i h
  rw [Decidable.not_not] at h
  exact Prod.ext h.symm rfl
 | cons x l ih =>
  show thenSt (t.delete x) (delAll (l ++ [s])) = thenSt (thenSt (t.delete x) (delAll l)) _
  by_cases h : (t.delete x).1 = 0
  · have e : ∀ f : St → Int × St, thenSt (t.delete x) f = f (t.delete x).2 := fun f => if_neg (by simp [h])
    rw [e, e, ih]
  have e : ∀ f : St → Int × St, thenSt (t.delete x) f = t.delete x := fun f => if_pos h
  rw [e, e, e]
theorem delAll_run {l : List (List UInt8)} {t : St} (h : (delAll l t).1 = 0) : (delAll l t).2 = delRun l t := by
 induction l generalizing t with
 | nil => rfl
 | cons x l ih =>
  have e : delAll (x :: l) t = thenSt (t.delete x) (delAll l) := rfl
  rw [e] at h ⊢
  unfold thenSt at h ⊢
  by_cases h0 : (t.delete x).1 = 0
  · rw [if_neg (by simp [h0])] at h ⊢
    exact ih h
  rw [if_pos h0] at h
  exact absurd h h0
theorem delAll_stop {l r : List (List UInt8)} {t : St} (h : (delAll l t).1 ≠ 0) : delAll (l ++ r) t = delAll l t := by
 induction l generalizing t with
 | nil => exact absurd rfl h
 | cons x l ih =>
  have e : ∀ l, delAll (x :: l) t = thenSt (t.delete x) (delAll l) := fun _ => rfl
  rw [List.cons_append, e, e]
  rw [e] at h
  unfold thenSt at h ⊢
  by_cases h0 : (t.delete x).1 = 0
  · rw [if_neg (by simp [h0])] at h
    rw [if_neg (by simp [h0]), if_neg (by simp [h0]), ih h]
  rw [if_pos h0, if_pos h0]
theorem but_putObj (X : World) (b : Nat) (o : Obj) : But (fun k => k = b) X (X.putObj b o) :=
 ⟨rfl, rfl, rfl, by simp [World.putObj], fun k _ hk => World.putObj_heap_other (fun e => hk e)⟩
section
variable {w0 w X Y : World} {dp : Nat} {t : St} {D : Nat → Prop}
theorem DK.out_ {O : Nat → Prop} (h : DK w0 X dp t D) (hb : But O X Y) (hO : ∀ k, O k → ¬ D k ∧ w0.heap.size ≤ k) : DK w0 Y dp t D :=
 ⟨Dsk.but h.is hb (fun k hk ho => (hO k ho).1 hk), h.base, h.below.trans (hb.below h.below.size fun k hk => (hO k hk).2)⟩
end
def UDx (w0 w : World) (dp : Nat) (D O : Nat → Prop) (t : St) (D1 : Nat → Prop) (X : World) : Prop :=
 DK w0 X dp t D1 ∧ But O w X ∧ ∀ k, D1 k → D k ∨ w.heap.size + 2 ≤ k
def UD (w0 w : World) (dp : Nat) (D O : Nat → Prop) (t : St) (X : World) : Prop := ∃ D1, UDx w0 w dp D O t D1 X
def KpD (B : Nat) (d : Nat → Prop) (X : World) (d' : Nat → Prop) (Y : World) : Prop :=
 X.heap.size ≤ Y.heap.size ∧ (∀ k, k < X.heap.size → ¬ d k → k ≠ B → k ≠ B + 1 → Y.heap[k]? = X.heap[k]?) ∧ ∀ k, d' k → d k ∨ X.heap.size ≤ k
theorem KpD.puts {B : Nat} {d d' : Nat → Prop} {X Y : World} (o o' : Obj) (h : KpD B d (X.putObj (B + 1) o) d' Y) : KpD B d X d' (Y.putObj (B + 1) o') := by
 have hz : ∀ (Z : World) (o : Obj), (Z.putObj (B + 1) o).heap.size = Z.heap.size := fun Z o => by simp [World.putObj]
 obtain ⟨h1, h2, h3⟩ := h
 rw [hz] at h1 h3
 refine ⟨by rw [hz]; exact h1, fun k hk hd ha hb => ?_, h3⟩
 rw [World.putObj_heap_other hb, h2 k (by rw [hz]; exact hk) hd ha hb, World.putObj_heap_other hb]
section
variable {w0 w X Y : World} {dp : Nat} {t t' : St} {D O : Nat → Prop}
theorem UDx.on {D1 : Nat → Prop} (h : UDx w0 w dp D O t D1 X) (hb : Below X.heap.size X Y) : UDx w0 w dp D O t D1 Y := by
 obtain ⟨h1, h2, h3⟩ := h
 exact ⟨h1.on hb, h2.trans (But.of_below (O := fun _ => False) hb) (fun _ hf => hf.elim), h3⟩
theorem UDx.loop {D1 : Nat → Prop} (h : UDx w0 w dp D O t D1 X) (hD : ∀ k, D k → k < w.heap.size) (hw : w0.heap.size ≤ w.heap.size) (o : Obj) (j : Nat) (hj : j < 2) : UDx w0 w dp D O t D1 (X.putObj (w.heap.size + j) o) := by
 obtain ⟨h1, h2, h3⟩ := h
 refine ⟨h1.out_ (but_putObj X _ o) ?_, h2.trans (but_putObj X _ o) (fun k hk => by subst hk; right; omega), h3⟩
 intro k hk
 subst hk
 exact ⟨fun h4 => by rcases h3 _ h4 with h5 | h5; have := hD _ h5; omega; omega, by omega⟩
theorem UD.loop (h : UD w0 w dp D O t X) (hD : ∀ k, D k → k < w.heap.size) (hw : w0.heap.size ≤ w.heap.size) (o : Obj) (j : Nat) (hj : j < 2) : UD w0 w dp D O t (X.putObj (w.heap.size + j) o) := by
 obtain ⟨D1, h1⟩ := h
 exact ⟨D1, UDx.loop h1 hD hw o j hj⟩
theorem UDx.mv {D1 : Nat → Prop} (hw : w.heap.size + 2 ≤ X.heap.size) (h2 : But O w X) (h3 : ∀ k, D1 k → D k ∨ w.heap.size + 2 ≤ k) (hDO : ∀ k, D k → O k) (hm : Mv w0 X dp D1 t' Y) (hD : ∀ k, D k → k < w.heap.size) : (∃ D2, UDx w0 w dp D O t' D2 Y ∧ KpD w.heap.size D1 X D2 Y) ∧ KeepsL w.heap.size X Y := by
 obtain ⟨D2, k1, k2, k3⟩ := hm
 have nb : ∀ j, j < 2 → ¬ D1 (w.heap.size + j) := fun j hj h4 => by
  rcases h3 _ h4 with h5 | h5
  · have := hD _ h5; omega
  omega
 refine ⟨⟨D2, ⟨k1, h2.trans k2 (fun k hk => by rcases h3 k hk with h4 | h4; exact .inl (hDO k h4); right; omega), fun k hk => ?_⟩, k2.size, fun k hk hd _ _ => k2.block k hk hd, k3⟩, k2.block _ (by omega) (nb 0 (by omega)), k2.block _ (by omega) (nb 1 (by omega))⟩
 rcases k3 k hk with h4 | h4
 · exact h3 k h4
 right; omega
theorem UD.out {W0 : World} (h : UD w0 W0 dp D O t X) (hb : Below w.heap.size w W0) (hw0 : w0.heap.size ≤ w.heap.size) (hD : ∀ k, D k → k < w.heap.size) (hO : ∀ k, O k → D k ∨ w.heap.size ≤ k) {O2 : Nat → Prop} (hY : But O2 X Y) (hO2 : ∀ k, O2 k → w.heap.size ≤ k ∧ k < W0.heap.size + 2) : Mv w0 w dp D t Y := by
 obtain ⟨D1, h1, h2, h3⟩ := h
 have hz := hb.size
 refine ⟨D1, h1.out_ hY fun k hk => ?_, ?_, fun k hk => ?_⟩
 · have h4 := hO2 k hk
   exact ⟨fun h5 => by rcases h3 k h5 with h6 | h6; have := hD k h6; omega; omega, by omega⟩
 · have e1 := (But.of_below (O := D) hb).trans (h2.more (O' := fun k => D k ∨ w.heap.size ≤ k) hO) (fun k hk => by rcases hk with h4 | h4; exact .inl h4; exact .inr h4)
   exact e1.trans hY (fun k hk => .inr (hO2 k hk).1)
 rcases h3 k hk with h4 | h4
 · exact .inl h4
 right; omega
end
theorem del_results {tmps : Array Value} {W : World} {B : Nat} {v : Int} (h1 : tmps.getD 4 undef = .pointer (some ⟨B, 0, none⟩)) (hc : W.cell? ⟨B, 0, none⟩ = some (.int .i64 v)) :
 (results Tryz.f34 tmps).run Tryz.prog W = .ok (.int .i64 v) W := by
 have h1' : tmps[4]?.getD undef = .pointer (some ⟨B, 0, none⟩) := by simpa using h1
 simp [results, Tryz.results34, go_sem, h1', asAddr, hc]
theorem cell_putObj {X : World} {b : Nat} {o : Obj} {p : Addr} {v : Value} (h : X.cell? p = some v) (hne : p.block ≠ b) : (X.putObj b o).cell? p = some v :=
 (World.cell?_of_block (w := X) (World.putObj_heap_other hne)).trans h
theorem deleteAll_any {w0 w : World} {dp lp : Nat} {t : St} {D : Nat → Prop} (hd : DK w0 w dp t D) (c0 : w.cell? ⟨lp, 0, none⟩ = some (.pointer (some ⟨dp, 0, none⟩))) (hlp : ¬ D lp) (gf : FuncId) (lb : Array Value) (l : List (List UInt8))
 (hgf : ∀ args x, (callFunc gf args).run Tryz.prog x = .ok (.enter gf args) x)
 (hit : ∀ W, Below w.heap.size w W → TellsU Fence.wide 11 Tryz.prog gf lb encS shortS (fun pre d X => UDx w0 W dp D D (delRun pre t) d X) (KpD W.heap.size) (· = l) (fun pre => ∃ post, l = pre ++ post) W) :
 Calls Tryz.prog 34 #[.pointer (some ⟨lp, 0, none⟩), .func (.func gf) #[] lb] w fun e w' => e = .returned (.int .i64 (delAll l t).1) ∧ Mv w0 w dp D (delAll l t).2 w' := by
 refine (callsIn_wide (n := 12)).1 ?_
 refine callsIn_of_wp_marks Tryz.func34 rfl trivial ?_ rfl
 simp only [Tryz.ntmps34, List.size_toArray, List.length_cons, List.length_nil, Nat.reduceAdd, Nat.reduceSub, Array.replicate_succ, Array.replicate_zero, List.push_toArray, List.append_toArray, List.nil_append, List.cons_append]
 obtain ⟨W0, hW0⟩ : ∃ W0, W0 = (w.alloc (.cells #[.pointer (some ⟨lp, 0, none⟩)] 29)).alloc (.cells #[.int .i64 0] 30) := ⟨_, rfl⟩
 have hB0 : Below w.heap.size w W0 := by rw [hW0]; exact ((Below.refl _ w).alloc Qn _).alloc (by simp) _
 have hs0 : W0.heap.size = w.heap.size + 2 := by rw [hW0]; simp
 have hl0 : W0.cell? ⟨w.heap.size, 0, none⟩ = some (.pointer (some ⟨lp, 0, none⟩)) := by rw [hW0]; simp [go_sem]
 have hr0 : W0.cell? ⟨w.heap.size + 1, 0, none⟩ = some (.int .i64 0) := by rw [hW0]; simp [go_sem]
 have hz0 : W0.frozen? ⟨w.heap.size + 1, 0, none⟩ = false := by rw [hW0]; simp [go_sem]
 have hd0 := hd.on hB0
 have hww := hd.below.size
 have hc0 := (hB0.cell (p := ⟨lp, 0, none⟩) (block_lt_of_cell c0)).trans c0
 have hDlt := hd.lt
 have hit0 := hit W0 hB0
 have hlt : lp < w.heap.size := block_lt_of_cell c0
 have HW0 := Qh hW0
 have HH := Qh (Qa hB0 (Qa hl0 (Qa hr0 (Qa hz0 hc0))))
 clear hW0 hB0 hl0 hr0 hz0 hc0 hd c0 hit
 have hwsz := hd0.below.size
 have CE : Hid (∀ (_ : Unit) X, But D W0 X → X.cell? ⟨w.heap.size, 0, none⟩ = some (.pointer (some ⟨lp, 0, none⟩)) ∧ X.cell? ⟨w.heap.size + 1, 0, none⟩ = some (.int .i64 0) ∧ X.frozen? ⟨w.heap.size + 1, 0, none⟩ = false ∧ X.cell? ⟨lp, 0, none⟩ = some (.pointer (some ⟨dp, 0, none⟩))) := fun _ X k2 =>
  ⟨(k2.cell (b := w.heap.size) (o := 0) (by omega) (fun h => by have := hDlt _ h; omega)).trans HH.out.2.1,
   (k2.cell (b := w.heap.size + 1) (o := 0) (by omega) (fun h => by have := hDlt _ h; omega)).trans HH.out.2.2.1,
   (k2.frozen (b := w.heap.size + 1) (o := 0) (by omega) (fun h => by have := hDlt _ h; omega)).trans HH.out.2.2.2.1,
   (k2.cell (b := lp) (o := 0) (by omega) hlp).trans HH.out.2.2.2.2⟩
 gi_wp2_with fail
 rw [← HW0.out]
 refine range_tellsU rfl (by omega) (gf := gf) (lb := lb) rfl trivial hgf hit0 (fun _ => rfl)
  (fun pre d X => (delAll pre t).1 = 0 ∧ UDx w0 W0 dp D D (delRun pre t) d X)
  (fun c pre X => c = .ret ∧ (delAll pre t).1 ≠ 0 ∧ UD w0 W0 dp D (fun k => D k ∨ k = w.heap.size + 1) (delAll pre t).2 X ∧ X.cell? ⟨w.heap.size + 1, 0, none⟩ = some (.int .i64 (delAll pre t).1))
  D (fun pre d X Y h hb => ⟨h.1, UDx.on h.2 hb⟩) ?hI2 (fun _ _ _ _ o o' h => KpD.puts o o' h) ?hIx2 (fun pre d X h => h.2) ?h0 (fun x => { tmps := #[.pointer (some ⟨lp, 0, none⟩), .func (.func gf) #[] lb, .pointer (some ⟨w.heap.size, 0, none⟩), undef, .pointer (some ⟨w.heap.size + 1, 0, none⟩), .string ⟨x.toArray⟩, undef, .func (.func gf) #[] lb, .string ⟨x.toArray⟩, undef, undef, undef, undef, undef, undef, undef, undef, undef], defers := [] }) ?assign ?body ?done ?stop
 case hI2 =>
  intro pre d X r o h _
  exact ⟨h.1, UDx.loop h.2 (fun k hk => by have := hDlt k hk; omega) hd0.below.size o 1 (by omega)⟩
 case hIx2 =>
  rintro c pre X r o ⟨h1, h2, h3, h4⟩ _
  exact ⟨h1, h2, h3.loop (fun k hk => by have := hDlt k hk; omega) hd0.below.size o 1 (by omega), cell_putObj h4 (by show w.heap.size + 1 ≠ _; omega)⟩
 case h0 => exact ⟨rfl, hd0, But.refl _ _, fun k hk => .inl hk⟩
 case assign =>
  intro l pre d x W K hI hM hK
  simp only [encS]
  gi_wp2
  exact hK
 case body =>
  rintro l pre D1 x W ⟨hok, k1, k2, k3⟩ hM hsz
  obtain ⟨hcl, hre, hzr, hcl2⟩ := CE.out () _ k2
  have DL := k1.delete ⟨x.toArray⟩ hM
  change Calls _ _ _ _ (fun e w' => e = .returned (.int .i64 ((delRun pre t).delete x).1) ∧ Mv w0 W dp D1 ((delRun pre t).delete x).2 w') at DL
  have DL := Qh DL
  have HU := Qh (Qa hok (Qa k2 (Qa k3 hsz)))
  have hsn : Hid (delAll (pre ++ [x]) t = (delRun pre t).delete x) := by
   show _ = _
   rw [delAll_snoc]
   unfold thenSt
   rw [if_neg (by simp [hok]), delAll_run hok]
  clear hok k1 k2 k3 hM hsz
  gi_wp2_with fail
  refine ⟨trivial, (CallsIn.inRound l (callsIn_wide.2 DL.out)).mono ?_⟩
  rintro e W2 ⟨rfl, hmv⟩
  obtain ⟨⟨D2, hU2, hkp⟩, hkl⟩ := UDx.mv (w := W0) (O := D) HU.out.2.2.2 HU.out.2.1 HU.out.2.2.1 (fun _ h => h) hmv (fun k hk => by have := hDlt k hk; omega)
  have hU2' := hU2
  obtain ⟨k1, k2, k3⟩ := hU2'
  obtain ⟨hcl, hre, hzr, hcl2⟩ := CE.out () _ k2
  have H2 := Qh (Qa hU2 (Qa hkl (Qa k1 (Qa k2 k3))))
  have HKP := Qh hkp
  clear hU2 hkl k1 k2 k3 hmv DL hkp
  generalize hxe : ((delRun pre t).delete x) = r at *
  by_cases hx : r.1 = 0
  · have hx' : (r.1 != 0) = false := by simp [hx]
    gi_wp2
    exact ⟨H2.out.2.1, D2, ⟨by rw [hsn.out]; exact hx, by rw [delRun_snoc, hxe]; exact H2.out.1⟩, HKP.out⟩
  have hx' : (r.1 != 0) = true := by simp [hx]
  gi_wp2
  have hb2 : ¬ D2 (w.heap.size + 1) := fun ho => by
   rcases H2.out.2.2.2.2 _ ho with h4 | h4
   · have := hDlt _ h4; omega
   omega
  refine ⟨⟨(Below.heap_setCell _ _ _ _ (by show W0.heap.size ≠ w.heap.size + 1; omega)).trans H2.out.2.1.1, (Below.heap_setCell _ _ _ _ (by show W0.heap.size + 1 ≠ w.heap.size + 1; omega)).trans H2.out.2.1.2⟩, rfl, by rw [hsn.out]; exact hx, ⟨D2, ?_, ?_, H2.out.2.2.2.2⟩, ?_⟩
  · rw [hsn.out]
    exact H2.out.2.2.1.setOut ⟨w.heap.size + 1, 0, none⟩ _ hb2 (by show _ ≤ w.heap.size + 1; omega)
  · exact (H2.out.2.2.2.1.more (fun k hk => .inl hk)).setCell (p := ⟨w.heap.size + 1, 0, none⟩) (.inl (.inr rfl)) _
  rw [hsn.out]
  exact World.cell?_setCell_same _ _ _ hre
 case done =>
  rintro xs D1 W rfl ⟨hok, k1, k2, k3⟩ hK
  obtain ⟨hcl, hre, hzr, hcl2⟩ := CE.out () _ k2
  have HU := Qh (Qa hok (Qa k1 (Qa k2 (Qa k3 hK))))
  clear hok k1 k2 k3 hK
  gi_wp2
  have hK' : (W.setCell ⟨w.heap.size + 1, 0, none⟩ (.int .i64 0)).heap[W0.heap.size]? = some (.deferred (some [])) := (Below.heap_setCell _ _ _ _ (by show W0.heap.size ≠ w.heap.size + 1; omega)).trans HU.out.2.2.2.2
  refine ⟨by simp, .inl ⟨_, _, rfl, run_takeDeferred hK', ?_⟩⟩
  refine ⟨_, del_results rfl (cell_putObj (World.cell?_setCell_same _ _ _ hre) (by show w.heap.size + 1 ≠ _; omega)), by rw [HU.out.1], ?_⟩
  rw [delAll_run HU.out.1]
  exact UD.out (W0 := W0) (O := D) ⟨D1, HU.out.2.1, HU.out.2.2.1, HU.out.2.2.2.1⟩ HH.out.1 hww (fun k hk => hDlt k hk) (fun k hk => .inl hk)
   (((But.refl (fun k => k = w.heap.size + 1 ∨ k = W0.heap.size) W).setCell (p := ⟨w.heap.size + 1, 0, none⟩) (.inl (.inl rfl)) _).trans ((but_putObj _ W0.heap.size _).more (fun k hk => .inr hk)) (fun k hk => .inl hk)) (fun k hk => by rcases hk with rfl | rfl <;> omega)
 case stop =>
  rintro c pre W ⟨post, hpost⟩ ⟨rfl, hne, ⟨D1, k1, k2, k3⟩, hcell⟩ hK
  gi_wp2
  refine ⟨by simp, .inl ⟨_, _, rfl, run_takeDeferred hK, ?_⟩⟩
  rw [hpost, delAll_stop hne]
  refine ⟨_, del_results rfl (cell_putObj hcell (by show w.heap.size + 1 ≠ _; omega)), rfl, ?_⟩
  exact UD.out (W0 := W0) (O := fun k => D k ∨ k = w.heap.size + 1) ⟨D1, k1, k2, k3⟩ HH.out.1 hww (fun k hk => hDlt k hk) (fun k hk => by rcases hk with h4 | rfl; exact .inl h4; right; omega)
   ((but_putObj _ W0.heap.size _)) (fun k hk => by subst hk; omega)
end
section
open Go.RowKit Go.Sort Go.Maps Go.Shelf
open Crc Frm
open Sgn
attribute [local go_sem] Oper.semAt_some
def thereN (t : St) : List (List UInt8) → List (List UInt8) → List (List UInt8)
 | _, [] => []
 | pre, s :: r => if (delRun pre t).has s = true then s :: thereN t (pre ++ [s]) r else thereN t pre r
abbrev nmC (ls : List (List UInt8)) (j : Nat) : Value := .string ⟨(ls.getD j []).toArray⟩
theorem there_tells {w0 w : World} {dp lp bn bl : Nat} {t : St} {D : Nat → Prop} (names : List (List UInt8)) (na : Option Addr) (n nc : Nat) (hn : names.length = n) (hshort : ∀ s ∈ names, shortS s)
 (hl : w.cell? ⟨bl, 0, none⟩ = some (.pointer (some ⟨lp, 0, none⟩))) (hs : w.cell? ⟨bn, 0, none⟩ = some (.slice na n nc)) (c0 : w.cell? ⟨lp, 0, none⟩ = some (.pointer (some ⟨dp, 0, none⟩)))
 (hr : Row w w.heap.size na n nc 1 (nmC names)) (hDl : ¬ D bl) (hDn : ¬ D bn) (hDp : ¬ D lp) (hDr : ∀ k o, na = some ⟨k, o, none⟩ → ¬ D k) :
 TellsU Fence.wide 11 Tryz.prog 89 #[.pointer (some ⟨bn, 0, none⟩), .pointer (some ⟨bl, 0, none⟩)] encS shortS (fun pre d X => UDx w0 w dp D D (delRun pre t) d X) (KpD w.heap.size) (· = thereN t [] names) (fun pre => ∃ post, thereN t [] names = pre ++ post) w := by
 intro l J Jx W d0 hBW _ hJ hU hY h0
 have hbl := block_lt_of_cell hl
 have hbn := block_lt_of_cell hs
 have hbp := block_lt_of_cell c0
 have hrl := hr.le
 have hrm := hr.max
 unfold maxLen at hrm
 have CE : Hid (∀ pre d X, J pre d X → X.cell? ⟨bl, 0, none⟩ = some (.pointer (some ⟨lp, 0, none⟩)) ∧ X.cell? ⟨bn, 0, none⟩ = some (.slice na n nc) ∧ X.cell? ⟨lp, 0, none⟩ = some (.pointer (some ⟨dp, 0, none⟩)) ∧
  (∀ k, k < n → ∃ b o, na = some ⟨b, o, none⟩ ∧ X.cell? ⟨b, o + k, none⟩ = some (.string ⟨(names.getD k []).toArray⟩)) ∧ DK w0 X dp (delRun pre t) d) := fun pre d X hj => by
  obtain ⟨k1, k2, k3⟩ := hU pre d X hj
  refine ⟨(k2.cell (b := bl) (o := 0) hbl hDl).trans hl, (k2.cell (b := bn) (o := 0) hbn hDn).trans hs, (k2.cell (b := lp) (o := 0) hbp hDp).trans c0, fun k hk => ?_, k1⟩
  obtain ⟨b, o, e, hb, hc⟩ := hr.at_ (by omega)
  exact ⟨b, o, e, (k2.cell (b := b) (o := o + k) hb (hDr b o e)).trans (hc k (by omega))⟩
 have HY := Qh (Qa hJ (Qa hY hshort))
 have hsW := (CE.out _ _ _ h0).2.1
 clear hl hs c0 hr hbl hbn hbp hDl hDn hDp hDr hU hJ hY hshort
 refine callsIn_of_wp Tryz.func89 rfl trivial ?_ rfl
 simp only [Tryz.ntmps89, List.size_toArray, List.length_cons, List.length_nil, Nat.reduceAdd, Nat.reduceSub, Array.replicate_succ, Array.replicate_zero, List.push_toArray, List.append_toArray, List.nil_append, List.cons_append]
 gi_wp2
 gi_loopw [5, 6, 7, 10, 14] (fun _ _ _ i _ wr => ∃ (k : Nat) (pre : List (List UInt8)) (d : Nat → Prop), k ≤ n ∧ i = .int .i64 (k : Int) ∧ J pre d wr ∧ pre ++ thereN t pre (names.drop k) = thereN t [] names) (fun _ _ _ i _ _ => n - (intOf i).toNat)
 case atStart => exact ⟨0, [], d0, Nat.zero_le _, rfl, h0, rfl⟩
 case round =>
  obtain ⟨k, pre, d, hk, rfl, hJs, hpre⟩ := hrel
  obtain ⟨hcl, hcn, hcp, hcr, k1⟩ := CE.out _ _ _ hJs
  by_cases hlt : k < n
  · obtain ⟨b, o, rfl, hck⟩ := hcr k hlt
    have hmem : names.getD k [] ∈ names := by
     rw [List.getD_eq_getElem?_getD, List.getElem?_eq_getElem (by omega)]
     exact List.getElem_mem _
    have hdrop : names.drop k = names.getD k [] :: names.drop (k + 1) := by
     rw [List.drop_eq_getElem_cons (by omega), List.getD_eq_getElem?_getD, List.getElem?_eq_getElem (by omega)]
     rfl
    have hsh := HY.out.2.2 _ hmem
    rw [hdrop] at hpre
    obtain ⟨s, hs⟩ : ∃ s, s = names.getD k [] := ⟨_, rfl⟩
    rw [← hs] at hck hsh hpre
    have hby := fat_byte k1.good s
    have R := k1.read ⟨s.toArray⟩ (by unfold maxLen; unfold shortS at hsh; show s.length ≤ _; omega)
    change Calls _ _ _ _ (NewBytes wr ((delRun pre t).bytes s) ((delRun pre t).has s)) at R
    change ∀ c ∈ (delRun pre t).bytes s, c < 256 at hby
    have R := Qh R
    have HS := Qh (Qa hpre (Qa hJs (Qa hsh (Qa hby k1))))
    clear hpre hJs hsh hby k1 hmem hdrop hs hcr
    gi_wp2_with fail
    refine ⟨trivial, (callsIn_wide.2 R.out).mono ?_⟩
    rintro e w2 hN
    obtain ⟨a2, n2, rfl, _, _, b2⟩ := NewBytes.out HS.out.2.2.2.2 hN HS.out.2.2.2.1
    have hJ2 := HY.out.1 _ _ _ _ HS.out.2.1 b2
    generalize hbs : (delRun pre t).bytes s = bs at *
    have hst : Hid (thereN t pre (s :: names.drop (k + 1)) = if (delRun pre t).has s = true then s :: thereN t (pre ++ [s]) (names.drop (k + 1)) else thereN t pre (names.drop (k + 1))) := rfl
    clear hN b2 R hcl hcn hcp
    generalize (delRun pre t).has s = is at *
    cases is with
    | false =>
     have hpre' : Hid (pre ++ thereN t pre (names.drop (k + 1)) = thereN t [] names) := by
      have h1 := HS.out.1
      have h2 := hst.out
      rw [if_neg (by simp)] at h2
      rw [h2] at h1
      exact h1
     have HJ2 := Qh hJ2
     clear hJ2 hst
     gi_wp2
     refine ⟨fun _ h => (by cases h), ?_⟩
     gi_wp2
     go_roundw
     case rel => exact ⟨k + 1, pre, d, by omega, by go_num, HJ2.out, hpre'.out⟩
     case measure => simp [intOf]; omega
    | true =>
     have hpre' : Hid (pre ++ s :: thereN t (pre ++ [s]) (names.drop (k + 1)) = thereN t [] names) := by
      have h1 := HS.out.1
      have h2 := hst.out
      rw [if_pos rfl] at h2
      rw [h2] at h1
      exact h1
     obtain ⟨fn, tmps, assign, body, hy, hR⟩ := HY.out.2.1 pre d s w2 hJ2 HS.out.2.2.1
     simp only [encS] at hy
     have HR := Qh hR
     clear hR hJ2 hst
     gi_wp2
     refine HR.out.mono ?_
     rintro e Y (⟨rfl, d', hJ4, _⟩ | ⟨rfl, hJx4⟩)
     · have H4 := Qh hJ4
       clear hJ4 HR hy
       gi_wp2
       go_roundw
       case rel => exact ⟨k + 1, pre ++ [s], d', by omega, by go_num, H4.out, by rw [List.append_assoc]; exact hpre'.out⟩
       case measure => simp [intOf]; omega
     have H4 := Qh hJx4
     clear hJx4 HR hy
     gi_wp2
     refine bodyPost_ret (results_none rfl _ _ _) rfl ?_
     exact ⟨⟨_, rfl⟩, .inr ⟨_, ⟨thereN t (pre ++ [s]) (names.drop (k + 1)), by rw [List.append_assoc]; exact hpre'.out.symm⟩, H4.out⟩⟩
  have hkn : k = n := by omega
  subst hkn
  have HE := Qh (Qa hJs hpre)
  clear hJs hpre hcr
  gi_wp2
  go_end0
  refine ⟨⟨_, rfl⟩, .inl ⟨pre, d, ?_, HE.out.1⟩⟩
  have h1 := HE.out.2
  rw [List.drop_of_length_le (by omega)] at h1
  simpa [thereN] using h1
end
section
open Go.RowKit
theorem wp_append_ints {P : Program} {w : World} {o : Oper} {a : Act} {K : Act → World → Prop} {Q : Exit → Act → World → Prop} (s x : Operand) (t : TypeId)
 (ho : o.op = .call { callee := .builtin .append, args := #[s, x], argTypes := #[t, t] })
 (base : Nat) (e : TypeId) (ht : P.underlying t = some (.slice e)) (hi : (P.info? e).map (fun i => (i.zero, i.size, i.bytes)) = some (some (.int .i64 0), 1, 8))
 (v : Value) (l : List Int) (hs : a.eval s = v) (hown : OwnV w base e v (i64V l))
 (B : Nat) (A : Option Addr) (m c : Nat) (l2 : List Int) (hx : a.eval x = .slice A m c) (hc : Row w B A m c 1 (intsC l2)) (hl2 : l2.length = m) (hA : A = none → m = 0 ∧ c = 0)
 (hbytes : l.length + m ≤ 1000000000) (hbase : base ≤ w.heap.size)
 (h : ∀ v' w', OwnV w' base e v' (i64V (l ++ l2)) → w.grownBy w' v.ownBlock → (v'.ownBlock = v.ownBlock ∨ v'.ownBlock = some w.heap.size) → K (a.put o.dst v') w') :
 o.wp P a w K Q := by
 obtain ⟨i, hi, hz0, hz1, hz2⟩ := info_parts hi
 cases A with
 | none =>
  obtain ⟨hm0, hc0⟩ := hA rfl
  subst hc0 hm0
  have hcs : l2 = [] := List.eq_nil_of_length_eq_zero hl2
  subst hcs
  have hrun := run_append_owned_none (P := P) (w := w) base t o.type e i 1 ht hi v (i64V l).length (i64V l) hown
  unfold Oper.wp
  simp [execOp, ho, resolve, invoke, builtin, hs, hx, hrun, Result.andThen]
  exact h v w (by simpa using hown) (World.grownBy.refl w _) (.inl rfl)
 | some ad =>
  obtain ⟨v', w', hr, h1, h2, h3, h4⟩ := run_append_own_at (P := P) w base t o.type e i (.int .i64 0) 1 8 ht hi hz0 hz1 hz2 rfl (by decide) v (i64V l).length (i64V l) hown ad m c (i64V l2) (by rw [List.length_map, hl2]; omega) (hc.news hl2) (i64V_one l2)
   (by unfold maxLen; rw [List.length_map]; omega) (by rw [List.length_map]; omega) hbase
  unfold Oper.wp execOp
  simp only [ho, resolve, invoke, builtin, Sem.run_bind, Sem.run_pure, Result.andThen_ok, List.map_toArray, List.map_cons, List.map_nil, hs, hx, hr]
  refine h v' w' ?_ h2 h4
  unfold OwnV
  have e1 : i64V (l ++ l2) = i64V l ++ i64V l2 := List.map_append
  rw [e1, List.length_append, show (i64V l2).length = m by rw [List.length_map, hl2]]
  exact h1
end
section
open Go.RowKit Go.Sort Go.Maps Go.Shelf
open Crc Frm
open Sgn
attribute [local go_sem] Oper.semAt_some
theorem info_i64L : (Tryz.prog.info? 2).map (fun i => (i.zero, i.size, i.bytes)) = some (some (.int .i64 0), 1, 8) := by kernel_rfl
theorem clone_ints (a : Option Addr) (n c : Nat) (l : List Int) (w : World) (hr : Row w w.heap.size a n c 1 (intsC l)) (hn : l.length = n) (hnil : a = none → n = 0 ∧ c = 0) (hlen : n ≤ 100000000) :
 Calls Tryz.prog 58 #[.slice a n c] w fun e w' => ∃ v, e = .returned v ∧ OwnV w' w.heap.size 2 v (i64V l) ∧ Below w.heap.size w w' := by
 have qT : ∀ (w : World) (a : Option Addr) (n c n' c' : Nat), (binOp .eql 50 (.slice a n c) (.slice none n' c')).run Tryz.prog w = .ok (.bool a.isNone) w := fun w a n c n' c' => Lib.run_eql_slice_nil w _ _ a n c n' c' Tryz.underlying50
 cases a with
 | none =>
  obtain ⟨h1, h2⟩ := hnil rfl
  subst h1 h2
  have hl : l = [] := List.eq_nil_of_length_eq_zero hn
  subst hl
  go_enter Tryz.func58, Tryz.ntmps58
  go_wp2
  go_ret
  exact ⟨_, rfl, OwnV.nil_ _ _ _, Below.refl _ _⟩
 | some x =>
  have hown0 : OwnV (w.alloc (.cells #[] 2)) w.heap.size 2 (.slice (some ⟨w.heap.size, 0, none⟩) 0 0) (i64V []) := OwnV.lit_ (w := w) 2 [] Qn (by decide)
  have hs2 := hr.below ((Below.refl _ w).alloc Qn (.cells #[] 2)) Qn
  clear hnil
  go_enter Tryz.func58, Tryz.ntmps58
  go_wp2_with (first | (at_builtin; refine wpList_append_ints rfl (.tmp 5) (.tmp 6) 50 rfl w.heap.size _ Tryz.underlying50 info_i64L (.slice (some ⟨w.heap.size, 0, none⟩) 0 0) [] rfl hown0 _ (some x) n c l rfl hs2 hn (by simp) (by simp; omega) (by simp) ?_; intro v1 w3 hown1 hg1 hat1))
  have hB3 : Below w.heap.size w w3 := ((Below.refl _ w).alloc Qn _).grown hg1 (by simp) (fun k hk => by simp [Value.ownBlock] at hk; omega)
  rw [List.nil_append] at hown1
  have H := Qh (Qa hown1 hB3)
  clear hg1 hat1 hown0 hown1 hB3
  go_wp2
  go_ret
  exact ⟨_, rfl, H.out⟩
def thereW (w : World) (lp gn n : Nat) : World := (w.alloc (.cells #[.pointer (some ⟨lp, 0, none⟩)] 29)).alloc (.cells #[.slice (some ⟨gn, 0, none⟩) n n] 63)
theorem there_any (lp gn n : Nat) (w : World) :
 Calls Tryz.prog 35 #[.pointer (some ⟨lp, 0, none⟩), .slice (some ⟨gn, 0, none⟩) n n] w fun e w' =>
  e = .returned (.func (.func 89) #[] #[.pointer (some ⟨w.heap.size + 1, 0, none⟩), .pointer (some ⟨w.heap.size, 0, none⟩)]) ∧ w' = thereW w lp gn n := by
 go_enter Tryz.func35, Tryz.ntmps35
 go_wp2
 go_ret
 exact ⟨rfl, rfl⟩
theorem thereW_below (w : World) (lp gn n : Nat) : Below w.heap.size w (thereW w lp gn n) := ((Below.refl _ w).alloc Qn _).alloc (by simp) _
theorem thereW_size (w : World) (lp gn n : Nat) : (thereW w lp gn n).heap.size = w.heap.size + 2 := by simp [thereW]
theorem deleteThere_any {w0 w : World} {dp lp : Nat} {t : St} {D : Nat → Prop} (hd : DK w0 w dp t D) (c0 : w.cell? ⟨lp, 0, none⟩ = some (.pointer (some ⟨dp, 0, none⟩))) (hlp : ¬ D lp) (names : List (List UInt8)) (gn n : Nat) (hn : names.length = n) (hn0 : n ≤ 1000) (fr : Nat × Nat)
 (hg : w.heap[gn]? = some (.cells ((names.map fun s => Value.string ⟨s.toArray⟩).toArray) 9 fr)) (hgD : ¬ D gn) (hshort : ∀ s ∈ names, shortS s) :
 Calls Tryz.prog 34 #[.pointer (some ⟨lp, 0, none⟩), .func (.func 89) #[] #[.pointer (some ⟨w.heap.size + 1, 0, none⟩), .pointer (some ⟨w.heap.size, 0, none⟩)]] (thereW w lp gn n) fun e w' =>
  e = .returned (.int .i64 (delAll (thereN t [] names) t).1) ∧ Mv w0 w dp D (delAll (thereN t [] names) t).2 w' := by
 have hb5 := thereW_below w lp gn n
 have hs5 := thereW_size w lp gn n
 have hDlt := hd.lt
 have hlt : lp < w.heap.size := block_lt_of_cell c0
 have hgl := lt_of_heap hg
 have hcb : (thereW w lp gn n).cell? ⟨w.heap.size, 0, none⟩ = some (.pointer (some ⟨lp, 0, none⟩)) := by unfold thereW; simp [go_sem]
 have hcn : (thereW w lp gn n).cell? ⟨w.heap.size + 1, 0, none⟩ = some (.slice (some ⟨gn, 0, none⟩) n n) := by unfold thereW; simp [go_sem]
 have hrow : Row w w.heap.size (some ⟨gn, 0, none⟩) n n 1 (nmC names) := by
  refine Row.new hg (fun j hj => ?_) (by unfold maxLen; omega)
  have hj' : j < names.length := by omega
  rw [List.getElem?_toArray, List.getElem?_map, List.getElem?_eq_getElem hj']
  simp [nmC, List.getD_eq_getElem?_getD, List.getElem?_eq_getElem hj']
 refine (deleteAll_any (hd.on hb5) ((hb5.cell (p := ⟨lp, 0, none⟩) hlt).trans c0) hlp 89 _ (thereN t [] names) (fun args x => enters_of Tryz.func89 (by kernel_rfl) rfl args x) (fun W hW => ?_)).mono fun e w' ⟨he, hm⟩ => ⟨he, Mv.then (But.of_below hb5) (fun _ hk => .inl hk) hm⟩
 have hbW := hb5.trans (hW.mono hb5.size)
 refine there_tells names (some ⟨gn, 0, none⟩) n n hn hshort ((hW.cell (p := ⟨w.heap.size, 0, none⟩) (by show w.heap.size < _; omega)).trans hcb) ((hW.cell (p := ⟨w.heap.size + 1, 0, none⟩) (by show w.heap.size + 1 < _; omega)).trans hcn) ((hbW.cell (p := ⟨lp, 0, none⟩) hlt).trans c0)
  ((hrow.below hbW Qn).more hbW.size) (fun h => by have := hDlt _ h; omega) (fun h => by have := hDlt _ h; omega) hlp (fun k o e => by injection e with e; injection e with e1; rw [← e1]; exact hgD)
theorem there_one (t : St) (s : List UInt8) : delAll (thereN t [] [s]) t = t.drop s := by
 unfold thereN St.drop
 show delAll (if t.has s = true then _ else thereN t [] []) t = _
 by_cases h : t.has s = true
 · rw [if_pos h, if_pos h]
   show thenSt (t.delete s) (fun t => (0, t)) = _
   unfold thenSt
   split
   · rfl
   rename_i h0
   rw [Decidable.not_not] at h0
   exact Prod.ext h0.symm rfl
 rw [if_neg h, if_neg h]
 rfl
end
section
open Go.RowKit Go.Sort Go.Maps Go.Shelf
open Crc Frm
open Sgn
attribute [local go_sem] Oper.semAt_some
def turnS {σ : Type} : List (σ → Int × σ) → σ → Int × σ
 | [], s => (0, s)
 | f :: l, s => if (f s).1 ≠ 0 then f s else turnS l (f s).2
theorem lturnS_any {σ : Type} (ss : List (σ → Int × σ)) (n : Nat) (hn : ss.length = n) (fs : Nat → FuncId) (ps cs : Nat → Array Value) (g : Nat) (w : World) (K : σ → World → Prop) (s0 : σ) (hn1 : n ≤ 1000)
 (hcell : ∀ k s w', k < n → K s w' → w'.cell? ⟨g, k, none⟩ = some (.func (.func (fs k)) (ps k) (cs k)))
 (hc : ∀ k x, k < n → (callFunc (fs k) (ps k ++ cs k)).run Tryz.prog x = .ok (.enter (fs k) (ps k ++ cs k)) x)
 (hcall : ∀ k f s w', ss[k]? = some f → K s w' → Calls Tryz.prog (fs k) (ps k ++ cs k) w' fun e w'' => e = .returned (.int .i64 (f s).1) ∧ K (f s).2 w'')
 (h0 : K s0 w) :
 Calls Tryz.prog 31 #[.slice (some ⟨g, 0, none⟩) n n] w fun e w' => e = .returned (.int .i64 (turnS ss s0).1) ∧ K (turnS ss s0).2 w' := by
 refine (lturn_any n fs ps cs g w (fun k w' => ∃ s, K s w' ∧ turnS (ss.drop k) s = turnS ss s0) (fun x w' => x = (turnS ss s0).1 ∧ K (turnS ss s0).2 w') hn1 ?_ hc ?_ ?_ ⟨s0, h0, rfl⟩).mono ?_
 · rintro k w' hk ⟨s, hs, _⟩
   exact hcell k s w' hk hs
 · rintro k w' hk ⟨s, hs, ht⟩
   have hk' : k < ss.length := by omega
   have hd : ss.drop k = ss[k] :: ss.drop (k + 1) := List.drop_eq_getElem_cons hk'
   rw [hd] at ht
   refine (hcall k ss[k] s w' (List.getElem?_eq_getElem hk') hs).mono ?_
   rintro e w'' ⟨rfl, hK⟩
   refine ⟨_, rfl, fun hz => ⟨_, hK, ?_⟩, fun hz => ?_⟩
   · rw [← ht]
     exact (if_neg (by simp [hz])).symm
   have e : turnS (ss[k] :: ss.drop (k + 1)) s = ss[k] s := if_pos hz
   rw [← ht, e]
   exact ⟨rfl, hK⟩
 · rintro w' ⟨s, hs, ht⟩
   rw [List.drop_of_length_le (by omega)] at ht
   rw [← ht]
   exact ⟨rfl, hs⟩
 rintro e w' ⟨x, rfl, rfl, hK⟩
 exact ⟨rfl, hK⟩
section
variable {w0 w : World} {dp lp bl : Nat} {t : St} {D : Nat → Prop}
theorem lay4_any (hd : DK w0 w dp t D) (c0 : w.cell? ⟨lp, 0, none⟩ = some (.pointer (some ⟨dp, 0, none⟩))) (hlp : ¬ D lp) (hl : w.cell? ⟨bl, 0, none⟩ = some (.pointer (some ⟨lp, 0, none⟩))) (hDl : ¬ D bl) (bs : Nat) (s : List UInt8) (hs : w.cell? ⟨bs, 0, none⟩ = some (.string ⟨s.toArray⟩)) (hDs : ¬ D bs) (hsh : shortS s) :
 Calls Tryz.prog 147 #[.pointer (some ⟨bl, 0, none⟩), .pointer (some ⟨bs, 0, none⟩)] w fun e w' => e = .returned (.int .i64 (t.sync s).1) ∧ Mv w0 w dp D (t.sync s).2 w' := by
 have hbl : bl < w.heap.size := block_lt_of_cell hl
 have hlt : lp < w.heap.size := block_lt_of_cell c0
 have hbs : bs < w.heap.size := block_lt_of_cell hs
 obtain ⟨r, hr9⟩ : ∃ r, r = t.sync s := ⟨_, rfl⟩
 have DL := (hd.on (Below.drew (Below.refl w.heap.size w))).sync ⟨s.toArray⟩ hsh
 change Calls _ _ _ _ (fun e w' => e = .returned (.int .i64 (t.sync s).1) ∧ Mv w0 w.drew dp D (t.sync s).2 w') at DL
 rw [← hr9] at DL ⊢
 have DL := Qh DL
 have HD := Qh (Qa hd (Qa hlp hDl))
 clear hd hr9 hlp hDl
 go_enter Tryz.func147, Tryz.ntmps147
 go_wp2_with fail
 refine wp_region_held_drew (S := fun x => x.cell? ⟨bl, 0, none⟩ = some (.pointer (some ⟨lp, 0, none⟩)) ∧ x.cell? ⟨lp, 0, none⟩ = some (.pointer (some ⟨dp, 0, none⟩)) ∧ x.cell? ⟨bs, 0, none⟩ = some (.string ⟨s.toArray⟩)) (by kernel_rfl) ⟨hl, c0, hs⟩ (fun hHeld => ?_)
 refine qi 0 (by assumption) ?_
 iterate 5 (refine qk rfl (by kernel_rfl) (fun _ _ _ h => h) (by intro w hSw; (try dsimp only at hSw); go_simp; all_goals with_reducible rfl) (by (try simp only [Act.put, lz]); rfl) ?_)
 refine qo ?_
 refine qr 5 rfl (by kernel_rfl) (fun K hK => ?_)
 rw [if_pos (by rfl)]
 go_simp
 go_at_call 59
 refine DL.out.mono ?_
 rintro e w2 ⟨rfl, hm⟩
 have hm2 := Mv.behind (Below.drew (Below.refl w.heap.size w)) hm
 obtain ⟨D2, _, b2, _⟩ := hm
 refine hK.out _ _ ?_ (fun hHeld => ?_)
 · exact ⟨(b2.cell (b := bl) (o := 0) hbl HD.out.2.2).trans hl, (b2.cell (b := lp) (o := 0) hlt HD.out.2.1).trans c0, (b2.cell (b := bs) (o := 0) hbs hDs).trans hs⟩
 clear hK K
 try simp only [Act.put, lz]
 refine qi 6 (by assumption) ?_
 refine qk rfl (by kernel_rfl) (fun _ _ _ h => h) (by intro w hSw; (try dsimp only at hSw); go_simp; all_goals with_reducible rfl) (by (try simp only [Act.put, lz]); rfl) ?_
 refine qo ?_
 refine wpAnyH_done (by kernel_rfl) ?_ _
 have HM := Qh hm2
 clear hm2 hHeld DL
 go_wp2
 go_ret
 exact ⟨rfl, HM.out⟩
theorem lay5_any (hd : DK w0 w dp t D) (c0 : w.cell? ⟨lp, 0, none⟩ = some (.pointer (some ⟨dp, 0, none⟩))) (hlp : ¬ D lp) (hl : w.cell? ⟨bl, 0, none⟩ = some (.pointer (some ⟨lp, 0, none⟩))) (hDl : ¬ D bl) (bs : Nat) (l : List Int) (a : Option Addr) (n c : Nat) (hs : w.cell? ⟨bs, 0, none⟩ = some (.slice a n c)) (hDs : ¬ D bs) (hr : Row w w.heap.size a n c 1 (intsC l)) (hn : l.length = n) (hfar : ∀ k o, a = some ⟨k, o, none⟩ → ¬ D k) :
 Calls Tryz.prog 148 #[.pointer (some ⟨bl, 0, none⟩), .pointer (some ⟨bs, 0, none⟩)] w fun e w' => e = .returned (.int .i64 (mSwap t l).1) ∧ Mv w0 w dp D (mSwap t l).2 w' := by
 have hbl : bl < w.heap.size := block_lt_of_cell hl
 have hlt : lp < w.heap.size := block_lt_of_cell c0
 have hbs : bs < w.heap.size := block_lt_of_cell hs
 obtain ⟨r, hr9⟩ : ∃ r, r = mSwap t l := ⟨_, rfl⟩
 have DL := mswap_any (hd.on (Below.drew (Below.refl w.heap.size w))) l a n c (row_drew hr) hn (fun _ => hfar)
 change Calls _ _ _ _ (fun e w' => e = .returned (.int .i64 (mSwap t l).1) ∧ Mv w0 w.drew dp D (mSwap t l).2 w') at DL
 rw [← hr9] at DL ⊢
 have DL := Qh DL
 have HD := Qh (Qa hd (Qa hlp hDl))
 clear hd hr9 hlp hDl
 go_enter Tryz.func148, Tryz.ntmps148
 go_wp2_with fail
 refine wp_region_held_drew (S := fun x => x.cell? ⟨bl, 0, none⟩ = some (.pointer (some ⟨lp, 0, none⟩)) ∧ x.cell? ⟨lp, 0, none⟩ = some (.pointer (some ⟨dp, 0, none⟩)) ∧ x.cell? ⟨bs, 0, none⟩ = some (.slice a n c)) (by kernel_rfl) ⟨hl, c0, hs⟩ (fun hHeld => ?_)
 refine qi 0 (by assumption) ?_
 iterate 5 (refine qk rfl (by kernel_rfl) (fun _ _ _ h => h) (by intro w hSw; (try dsimp only at hSw); go_simp; all_goals with_reducible rfl) (by (try simp only [Act.put, lz]); rfl) ?_)
 refine qo ?_
 refine qr 5 rfl (by kernel_rfl) (fun K hK => ?_)
 rw [if_pos (by rfl)]
 go_simp
 go_at_call 78
 refine DL.out.mono ?_
 rintro e w2 ⟨rfl, hm⟩
 have hm2 := Mv.behind (Below.drew (Below.refl w.heap.size w)) hm
 obtain ⟨D2, _, b2, _⟩ := hm
 refine hK.out _ _ ?_ (fun hHeld => ?_)
 · exact ⟨(b2.cell (b := bl) (o := 0) hbl HD.out.2.2).trans hl, (b2.cell (b := lp) (o := 0) hlt HD.out.2.1).trans c0, (b2.cell (b := bs) (o := 0) hbs hDs).trans hs⟩
 clear hK K
 try simp only [Act.put, lz]
 refine qi 6 (by assumption) ?_
 refine qk rfl (by kernel_rfl) (fun _ _ _ h => h) (by intro w hSw; (try dsimp only at hSw); go_simp; all_goals with_reducible rfl) (by (try simp only [Act.put, lz]); rfl) ?_
 refine qo ?_
 refine wpAnyH_done (by kernel_rfl) ?_ _
 have HM := Qh hm2
 clear hm2 hHeld DL
 go_wp2
 go_ret
 exact ⟨rfl, HM.out⟩
theorem mend2_any (hd : DK w0 w dp t D) (c0 : w.cell? ⟨lp, 0, none⟩ = some (.pointer (some ⟨dp, 0, none⟩))) (hlp : ¬ D lp) (hl : w.cell? ⟨bl, 0, none⟩ = some (.pointer (some ⟨lp, 0, none⟩))) (hDl : ¬ D bl) (bs : Nat) (b : List Nat) (a : Option Addr) (n c : Nat) (hs : w.cell? ⟨bs, 0, none⟩ = some (.slice a n c)) (hDs : ¬ D bs) (hr : Sl w w.heap.size a n c b) (hn : n ≤ 100000000) (hfar : ∀ k o, a = some ⟨k, o, none⟩ → ¬ D k) :
 Calls Tryz.prog 150 #[.pointer (some ⟨bl, 0, none⟩), .pointer (some ⟨bs, 0, none⟩)] w fun e w' => e = .returned (.int .i64 (t.write fxL b).1) ∧ Mv w0 w dp D (t.write fxL b).2 w' := by
 have hbl : bl < w.heap.size := block_lt_of_cell hl
 have hlt : lp < w.heap.size := block_lt_of_cell c0
 have hbs : bs < w.heap.size := block_lt_of_cell hs
 obtain ⟨r, hr9⟩ : ∃ r, r = t.write fxL b := ⟨_, rfl⟩
 have DL := (hd.on (Below.drew (Below.refl w.heap.size w))).write ⟨fxL.toArray⟩ (by decide) a n c b hr.drew (by omega) (fun _ => hfar)
 change Calls _ _ _ _ (fun e w' => e = .returned (.int .i64 (t.write fxL b).1) ∧ Mv w0 w.drew dp D (t.write fxL b).2 w') at DL
 rw [← hr9] at DL ⊢
 unfold fxL at DL
 have DL := Qh DL
 have HD := Qh (Qa hd (Qa hlp hDl))
 clear hd hr9 hlp hDl
 go_enter Tryz.func150, Tryz.ntmps150
 go_wp2_with fail
 refine wp_region_held_drew (S := fun x => x.cell? ⟨bl, 0, none⟩ = some (.pointer (some ⟨lp, 0, none⟩)) ∧ x.cell? ⟨lp, 0, none⟩ = some (.pointer (some ⟨dp, 0, none⟩)) ∧ x.cell? ⟨bs, 0, none⟩ = some (.slice a n c)) (by kernel_rfl) ⟨hl, c0, hs⟩ (fun hHeld => ?_)
 refine qi 0 (by assumption) ?_
 iterate 5 (refine qk rfl (by kernel_rfl) (fun _ _ _ h => h) (by intro w hSw; (try dsimp only at hSw); go_simp; all_goals with_reducible rfl) (by (try simp only [Act.put, lz]); rfl) ?_)
 refine qo ?_
 refine qr 5 rfl (by kernel_rfl) (fun K hK => ?_)
 rw [if_pos (by rfl)]
 go_simp
 go_at_call 62
 refine DL.out.mono ?_
 rintro e w2 ⟨rfl, hm⟩
 have hm2 := Mv.behind (Below.drew (Below.refl w.heap.size w)) hm
 obtain ⟨D2, _, b2, _⟩ := hm
 refine hK.out _ _ ?_ (fun hHeld => ?_)
 · exact ⟨(b2.cell (b := bl) (o := 0) hbl HD.out.2.2).trans hl, (b2.cell (b := lp) (o := 0) hlt HD.out.2.1).trans c0, (b2.cell (b := bs) (o := 0) hbs hDs).trans hs⟩
 clear hK K
 try simp only [Act.put, lz]
 refine qi 6 (by assumption) ?_
 refine qk rfl (by kernel_rfl) (fun _ _ _ h => h) (by intro w hSw; (try dsimp only at hSw); go_simp; all_goals with_reducible rfl) (by (try simp only [Act.put, lz]); rfl) ?_
 refine qo ?_
 refine wpAnyH_done (by kernel_rfl) ?_ _
 have HM := Qh hm2
 clear hm2 hHeld DL
 go_wp2
 go_ret
 exact ⟨rfl, HM.out⟩
theorem head_own (n : Int) (w : World) : Calls Tryz.prog 146 #[.int .i64 n] w fun e w' => ∃ v, e = .returned v ∧ OwnB w' w.heap.size 5 v (hdo n) ∧ Below w.heap.size w w' := by
 by_cases h : 0 ≤ n ∧ n ≤ 1073741824
 · obtain ⟨k, rfl⟩ := Int.eq_ofNat_of_zero_le h.1
   have e : hdo (k : Int) = head k := by unfold hdo; rw [if_pos h, Int.toNat_natCast]
   rw [e]
   exact segHead_yes k (by omega) w
 have e : hdo n = [] := if_neg h
 rw [e]
 exact (segHead_no n h w).mono fun e w' ⟨h1, h2⟩ => ⟨_, h1, OwnB.nil_ _ _ _, by rw [h2]; exact Below.refl _ _⟩
theorem lay3_any (hd : DK w0 w dp t D) (c0 : w.cell? ⟨lp, 0, none⟩ = some (.pointer (some ⟨dp, 0, none⟩))) (hlp : ¬ D lp) (hl : w.cell? ⟨bl, 0, none⟩ = some (.pointer (some ⟨lp, 0, none⟩))) (hDl : ¬ D bl) (bs bf : Nat) (s : List UInt8) (first : Int) (hs : w.cell? ⟨bs, 0, none⟩ = some (.string ⟨s.toArray⟩)) (hf : w.cell? ⟨bf, 0, none⟩ = some (.int .i64 first)) (hDs : ¬ D bs) (hDf : ¬ D bf) (hsh : shortS s) :
 Calls Tryz.prog 145 #[.pointer (some ⟨bl, 0, none⟩), .pointer (some ⟨bs, 0, none⟩), .pointer (some ⟨bf, 0, none⟩)] w fun e w' => e = .returned (.int .i64 (t.write s (hdo first)).1) ∧ Mv w0 w dp D (t.write s (hdo first)).2 w' := by
 have hbl : bl < w.heap.size := block_lt_of_cell hl
 have hlt : lp < w.heap.size := block_lt_of_cell c0
 have hbs : bs < w.heap.size := block_lt_of_cell hs
 have hbf : bf < w.heap.size := block_lt_of_cell hf
 obtain ⟨r, hr9⟩ : ∃ r, r = t.write s (hdo first) := ⟨_, rfl⟩
 have hby : ∀ c ∈ hdo first, c < 256 := by
  unfold hdo
  split
  · exact head_byte _
  simp
 have hln : (hdo first).length ≤ 12 := by
  unfold hdo
  split
  · rw [head_len]; exact Nat.le_refl _
  simp
 have PT := Qh (head_own first w.drew)
 have HD := Qh (Qa hd (Qa hlp (Qa hDl (Qa hby (Qa hr9 hsh)))))
 rw [← hr9]
 clear hd hr9 hlp hDl hby hsh
 go_enter Tryz.func145, Tryz.ntmps145
 go_wp2_with fail
 refine wp_region_held_drew (S := fun x => x.cell? ⟨bl, 0, none⟩ = some (.pointer (some ⟨lp, 0, none⟩)) ∧ x.cell? ⟨lp, 0, none⟩ = some (.pointer (some ⟨dp, 0, none⟩)) ∧ x.cell? ⟨bs, 0, none⟩ = some (.string ⟨s.toArray⟩) ∧ x.cell? ⟨bf, 0, none⟩ = some (.int .i64 first)) (by kernel_rfl) ⟨hl, c0, hs, hf⟩ (fun hHeld => ?_)
 refine qi 0 (by assumption) ?_
 iterate 6 (refine qk rfl (by kernel_rfl) (fun _ _ _ h => h) (by intro w hSw; (try dsimp only at hSw); go_simp; all_goals with_reducible rfl) (by (try simp only [Act.put, lz]); rfl) ?_)
 refine qo ?_
 refine qr 6 rfl (by kernel_rfl) (fun K hK => ?_)
 rw [if_pos (by rfl)]
 go_simp
 go_at_call 146
 refine PT.out.mono ?_
 rintro e w1 ⟨v, rfl, hv, hb1⟩
 have hb1' : Below w.heap.size w w1 := below_drew_of hb1
 have j1 := (hb1'.cell (p := ⟨bl, 0, none⟩) hbl).trans hl
 have j2 := (hb1'.cell (p := ⟨lp, 0, none⟩) hlt).trans c0
 have j3 := (hb1'.cell (p := ⟨bs, 0, none⟩) hbs).trans hs
 have j4 := (hb1'.cell (p := ⟨bf, 0, none⟩) hbf).trans hf
 obtain ⟨va, vc, rfl, hvs, hvb⟩ := hv.sl_base HD.out.2.2.2.1
 have WR := (HD.out.1.on hb1').write ⟨s.toArray⟩ HD.out.2.2.2.2.2 va _ vc _ hvs (by omega) (fun _ k o e ho => by have h1 := hvb k o e; have h2 := HD.out.1.lt k ho; have h3 : w.drew.heap.size = w.heap.size := rfl; omega)
 change Calls _ _ _ _ (fun e w' => e = .returned (.int .i64 (t.write s (hdo first)).1) ∧ Mv w0 w1 dp D (t.write s (hdo first)).2 w') at WR
 rw [← HD.out.2.2.2.2.1] at WR
 have WR := Qh WR
 have HB := Qh hb1'
 clear hv hb1 hvs hvb hb1' PT
 generalize (hdo first).length = pn at *
 refine hK.out _ _ ?_ (fun hHeld => ?_)
 · exact ⟨j1, j2, j3, j4⟩
 clear hK K
 try simp only [Act.put, lz]
 refine qr 7 rfl (by kernel_rfl) (fun K hK => ?_)
 rw [if_pos (by rfl)]
 go_simp
 go_at_call 62
 refine WR.out.mono ?_
 rintro e w2 ⟨rfl, hm⟩
 have hm2 := Mv.behind HB.out hm
 obtain ⟨D2, _, b2, _⟩ := hm
 have hz := HB.out.size
 refine hK.out _ _ ?_ (fun hHeld => ?_)
 · exact ⟨(b2.cell (b := bl) (o := 0) (by omega) HD.out.2.2.1).trans j1, (b2.cell (b := lp) (o := 0) (by omega) HD.out.2.1).trans j2, (b2.cell (b := bs) (o := 0) (by omega) hDs).trans j3, (b2.cell (b := bf) (o := 0) (by omega) hDf).trans j4⟩
 clear hK K
 try simp only [Act.put, lz]
 refine qi 8 (by assumption) ?_
 refine qk rfl (by kernel_rfl) (fun _ _ _ h => h) (by intro w hSw; (try dsimp only at hSw); go_simp; all_goals with_reducible rfl) (by (try simp only [Act.put, lz]); rfl) ?_
 refine qo ?_
 refine wpAnyH_done (by kernel_rfl) ?_ _
 have HM := Qh hm2
 clear hm2 hHeld WR
 go_wp2
 go_ret
 exact ⟨rfl, HM.out⟩
theorem lay2_any (hd : DK w0 w dp t D) (c0 : w.cell? ⟨lp, 0, none⟩ = some (.pointer (some ⟨dp, 0, none⟩))) (hlp : ¬ D lp) (hl : w.cell? ⟨bl, 0, none⟩ = some (.pointer (some ⟨lp, 0, none⟩))) (hDl : ¬ D bl) (bs : Nat) (s : List UInt8) (hs : w.cell? ⟨bs, 0, none⟩ = some (.string ⟨s.toArray⟩)) (hDs : ¬ D bs) (hsh : shortS s) :
 Calls Tryz.prog 144 #[.pointer (some ⟨bl, 0, none⟩), .pointer (some ⟨bs, 0, none⟩)] w fun e w' => e = .returned (.int .i64 (t.drop s).1) ∧ Mv w0 w dp D (t.drop s).2 w' := by
 have hbl : bl < w.heap.size := block_lt_of_cell hl
 have hlt : lp < w.heap.size := block_lt_of_cell c0
 have hbs : bs < w.heap.size := block_lt_of_cell hs
 obtain ⟨r, hr9⟩ : ∃ r, r = t.drop s := ⟨_, rfl⟩
 have hB3 : Below w.heap.size w (w.alloc (.cells #[.string ⟨s.toArray⟩] 9)).drew := ((Below.refl w.heap.size w).alloc Qn _).drew
 have hg3 : (w.alloc (.cells #[.string ⟨s.toArray⟩] 9)).drew.heap[w.heap.size]? = some (.cells #[.string ⟨s.toArray⟩] 9 (0, 0)) := heap_alloc_new w _
 have hc3 := (hB3.cell (p := ⟨lp, 0, none⟩) hlt).trans c0
 have hd3 := hd.on hB3
 obtain ⟨w3, hw3⟩ : ∃ w3, w3 = (w.alloc (.cells #[.string ⟨s.toArray⟩] 9)).drew := ⟨_, rfl⟩
 rw [← hw3] at hg3 hc3 hd3
 have DL := deleteThere_any hd3 hc3 hlp [s] w.heap.size 1 rfl (by decide) (0, 0) hg3 (fun h => by have := hd.lt _ h; omega) (by simpa using hsh)
 rw [there_one, ← hr9] at DL
 rw [hw3] at DL
 simp only [World.size_alloc, World.size_drew] at DL
 rw [← hr9]
 have TH := Qh (there_any lp w.heap.size 1 (w.alloc (.cells #[.string ⟨s.toArray⟩] 9)).drew)
 have HD := Qh (Qa hd (Qa hlp (Qa hDl hB3)))
 have DL := Qh DL
 have hb5 := thereW_below (w.alloc (.cells #[.string ⟨s.toArray⟩] 9)).drew lp w.heap.size 1
 have B5 := Qh (hB3.trans (hb5.mono hB3.size))
 clear hd hr9 hlp hDl hsh hg3 hc3 hd3 hw3
 go_enter Tryz.func144, Tryz.ntmps144
 go_wp2_with fail
 refine wp_region_held_drew (S := fun x => x.cell? ⟨bl, 0, none⟩ = some (.pointer (some ⟨lp, 0, none⟩)) ∧ x.cell? ⟨bs, 0, none⟩ = some (.string ⟨s.toArray⟩)) (by kernel_rfl) ⟨hl, hs⟩ (fun hHeld => ?_)
 refine qi 0 (by assumption) ?_
 iterate 3 (refine qk rfl (by kernel_rfl) (fun _ _ _ h => h) (by intro w hSw; (try dsimp only at hSw); go_simp; all_goals with_reducible rfl) (by (try simp only [Act.put, lz]); rfl) ?_)
 refine qo ?_
 refine qr 3 rfl (by kernel_rfl) (fun K hK => ?_)
 rw [if_pos (by rfl)]
 go_simp
 refine hK.out _ _ ?_ (fun hHeld => ?_)
 · exact ⟨(hB3.cell (p := ⟨bl, 0, none⟩) hbl).trans hl, (hB3.cell (p := ⟨bs, 0, none⟩) hbs).trans hs⟩
 clear hK K
 try simp only [Act.put, lz]
 refine qr 4 rfl (by kernel_rfl) (fun K hK => ?_)
 rw [if_pos (by rfl)]
 go_simp
 go_at_call 35
 with_reducible refine TH.out.mono ?_
 rintro e w2 ⟨rfl, rfl⟩
 have j1 := (B5.out.cell (p := ⟨bl, 0, none⟩) hbl).trans hl
 have j2 := (B5.out.cell (p := ⟨bs, 0, none⟩) hbs).trans hs
 refine hK.out _ _ ?_ (fun hHeld => ?_)
 · exact ⟨j1, j2⟩
 clear hK K
 try simp only [Act.put, lz]
 refine qr 5 rfl (by kernel_rfl) (fun K hK => ?_)
 rw [if_pos (by rfl)]
 go_simp
 go_at_call 34
 with_reducible refine DL.out.mono ?_
 rintro e w3 ⟨rfl, hm⟩
 have hm2 := Mv.behind HD.out.2.2.2 hm
 obtain ⟨D2, _, b2, _⟩ := hm2
 refine hK.out _ _ ?_ (fun hHeld => ?_)
 · exact ⟨(b2.cell (b := bl) (o := 0) hbl HD.out.2.2.1).trans hl, (b2.cell (b := bs) (o := 0) hbs hDs).trans hs⟩
 clear hK K
 try simp only [Act.put, lz]
 refine qi 6 (by assumption) ?_
 refine qk rfl (by kernel_rfl) (fun _ _ _ h => h) (by intro w hSw; (try dsimp only at hSw); go_simp; all_goals with_reducible rfl) (by (try simp only [Act.put, lz]); rfl) ?_
 refine qo ?_
 refine wpAnyH_done (by kernel_rfl) ?_ _
 have HM := Qh (Mv.behind HD.out.2.2.2 hm)
 clear hm b2 hHeld DL
 go_wp2
 go_ret
 exact ⟨rfl, HM.out⟩
theorem mend1_any (hd : DK w0 w dp t D) (c0 : w.cell? ⟨lp, 0, none⟩ = some (.pointer (some ⟨dp, 0, none⟩))) (hlp : ¬ D lp) (hl : w.cell? ⟨bl, 0, none⟩ = some (.pointer (some ⟨lp, 0, none⟩))) (hDl : ¬ D bl) :
 Calls Tryz.prog 149 #[.pointer (some ⟨bl, 0, none⟩)] w fun e w' => e = .returned (.int .i64 (t.drop fxL).1) ∧ Mv w0 w dp D (t.drop fxL).2 w' := by
 have hbl : bl < w.heap.size := block_lt_of_cell hl
 have hlt : lp < w.heap.size := block_lt_of_cell c0
 obtain ⟨r, hr9⟩ : ∃ r, r = t.drop fxL := ⟨_, rfl⟩
 have hB3 : Below w.heap.size w (w.alloc (.cells #[.string ⟨fxL.toArray⟩] 9)).drew := ((Below.refl w.heap.size w).alloc Qn _).drew
 have hg3 : (w.alloc (.cells #[.string ⟨fxL.toArray⟩] 9)).drew.heap[w.heap.size]? = some (.cells #[.string ⟨fxL.toArray⟩] 9 (0, 0)) := heap_alloc_new w _
 have hc3 := (hB3.cell (p := ⟨lp, 0, none⟩) hlt).trans c0
 have hd3 := hd.on hB3
 obtain ⟨w3, hw3⟩ : ∃ w3, w3 = (w.alloc (.cells #[.string ⟨fxL.toArray⟩] 9)).drew := ⟨_, rfl⟩
 rw [← hw3] at hg3 hc3 hd3
 have DL := deleteThere_any hd3 hc3 hlp [fxL] w.heap.size 1 rfl (by decide) (0, 0) hg3 (fun h => by have := hd.lt _ h; omega) (by decide)
 rw [there_one, ← hr9] at DL
 rw [hw3] at DL
 simp only [World.size_alloc, World.size_drew] at DL
 rw [← hr9]
 have TH := there_any lp w.heap.size 1 (w.alloc (.cells #[.string ⟨fxL.toArray⟩] 9)).drew
 have hb5 := thereW_below (w.alloc (.cells #[.string ⟨fxL.toArray⟩] 9)).drew lp w.heap.size 1
 have B5 := Qh (hB3.trans (hb5.mono hB3.size))
 unfold fxL at DL TH B5 hB3
 have TH := Qh TH
 have DL := Qh DL
 have HD := Qh (Qa hd (Qa hlp (Qa hDl hB3)))
 clear hd hr9 hlp hDl hb5 hg3 hc3 hd3 hw3
 go_enter Tryz.func149, Tryz.ntmps149
 go_wp2_with fail
 refine wp_region_held_drew (S := fun x => x.cell? ⟨bl, 0, none⟩ = some (.pointer (some ⟨lp, 0, none⟩))) (by kernel_rfl) hl (fun hHeld => ?_)
 refine qi 0 (by assumption) ?_
 iterate 2 (refine qk rfl (by kernel_rfl) (fun _ _ _ h => h) (by intro w hSw; (try dsimp only at hSw); go_simp; all_goals with_reducible rfl) (by (try simp only [Act.put, lz]); rfl) ?_)
 refine qo ?_
 refine qr 2 rfl (by kernel_rfl) (fun K hK => ?_)
 rw [if_pos (by rfl)]
 go_simp
 refine hK.out _ _ ?_ (fun hHeld => ?_)
 · exact (hB3.cell (p := ⟨bl, 0, none⟩) hbl).trans hl
 clear hK K
 try simp only [Act.put, lz]
 refine qr 3 rfl (by kernel_rfl) (fun K hK => ?_)
 rw [if_pos (by rfl)]
 go_simp
 go_at_call 35
 with_reducible refine TH.out.mono ?_
 rintro e w2 ⟨rfl, rfl⟩
 refine hK.out _ _ ?_ (fun hHeld => ?_)
 · exact (B5.out.cell (p := ⟨bl, 0, none⟩) hbl).trans hl
 clear hK K
 try simp only [Act.put, lz]
 refine qr 4 rfl (by kernel_rfl) (fun K hK => ?_)
 rw [if_pos (by rfl)]
 go_simp
 go_at_call 34
 with_reducible refine DL.out.mono ?_
 rintro e w3 ⟨rfl, hm⟩
 have hm2 := Mv.behind HD.out.2.2.2 hm
 obtain ⟨D2, _, b2, _⟩ := hm2
 refine hK.out _ _ ?_ (fun hHeld => ?_)
 · exact (b2.cell (b := bl) (o := 0) hbl HD.out.2.2.1).trans hl
 clear hK K
 try simp only [Act.put, lz]
 refine qi 5 (by assumption) ?_
 refine qk rfl (by kernel_rfl) (fun _ _ _ h => h) (by intro w hSw; (try dsimp only at hSw); go_simp; all_goals with_reducible rfl) (by (try simp only [Act.put, lz]); rfl) ?_
 refine qo ?_
 refine wpAnyH_done (by kernel_rfl) ?_ _
 have HM := Qh (Mv.behind HD.out.2.2.2 hm)
 clear hm b2 hHeld DL
 go_wp2
 go_ret
 exact ⟨rfl, HM.out⟩
theorem mend3_any (hd : DK w0 w dp t D) (c0 : w.cell? ⟨lp, 0, none⟩ = some (.pointer (some ⟨dp, 0, none⟩))) (hlp : ¬ D lp) (hl : w.cell? ⟨bl, 0, none⟩ = some (.pointer (some ⟨lp, 0, none⟩))) (hDl : ¬ D bl) :
 Calls Tryz.prog 151 #[.pointer (some ⟨bl, 0, none⟩)] w fun e w' => e = .returned (.int .i64 (t.sync fxL).1) ∧ Mv w0 w dp D (t.sync fxL).2 w' := by
 have hbl : bl < w.heap.size := block_lt_of_cell hl
 have hlt : lp < w.heap.size := block_lt_of_cell c0
 obtain ⟨r, hr9⟩ : ∃ r, r = t.sync fxL := ⟨_, rfl⟩
 have DL := hd.sync ⟨fxL.toArray⟩ (by decide)
 change Calls _ _ _ _ (fun e w' => e = .returned (.int .i64 (t.sync fxL).1) ∧ Mv w0 w dp D (t.sync fxL).2 w') at DL
 rw [← hr9] at DL ⊢
 unfold fxL at DL
 have DL := Qh DL
 clear hd hr9 hlp hDl
 go_enter Tryz.func151, Tryz.ntmps151
 go_wp2_with fail
 refine DL.out.mono ?_
 rintro e w1 ⟨rfl, hm⟩
 have HM := Qh hm
 clear hm DL
 go_wp2
 go_ret
 exact ⟨rfl, HM.out⟩
end
end
section
open Go.RowKit Go.Sort Go.Maps Go.Shelf
open Crc Frm
open Sgn
attribute [local go_sem] Oper.semAt_some
def lyClean (s : List UInt8) (x : Int) (t : St) : St := if x ≠ 0 ∧ x ≠ 42 then (t.delete s).2 else t
section
variable {w0 w : World} {dp lp bl : Nat} {t : St} {D : Nat → Prop}
theorem lay1_any (hd : DK w0 w dp t D) (c0 : w.cell? ⟨lp, 0, none⟩ = some (.pointer (some ⟨dp, 0, none⟩))) (hlp : ¬ D lp) (hl : w.cell? ⟨bl, 0, none⟩ = some (.pointer (some ⟨lp, 0, none⟩))) (hDl : ¬ D bl)
 (be bs : Nat) (s : List UInt8) (hs : w.cell? ⟨bs, 0, none⟩ = some (.string ⟨s.toArray⟩)) (hDs : ¬ D bs) (hsh : shortS s) (x : Int) (u : FrameMode) (he : w.cell? ⟨be, 0, none⟩ = some (.int .i64 x)) :
 CallsD Tryz.prog 143 #[.pointer (some ⟨be, 0, none⟩), .pointer (some ⟨bl, 0, none⟩), .pointer (some ⟨bs, 0, none⟩)] u w fun e u' w' => u' = u ∧ (e = .returned (.tuple #[]) ∧ Mv w0 w dp D (lyClean s x t) w') := by
 have hbl : bl < w.heap.size := block_lt_of_cell hl
 have hlt : lp < w.heap.size := block_lt_of_cell c0
 have hbs : bs < w.heap.size := block_lt_of_cell hs
 have DL := (hd.on (Below.drew (Below.refl w.heap.size w))).delete ⟨s.toArray⟩ hsh
 change Calls _ _ _ _ (fun e w' => e = .returned (.int .i64 (t.delete s).1) ∧ Mv w0 w.drew dp D (t.delete s).2 w') at DL
 have DL := Qh DL
 have HS := Qh (Mv.still hd Qb)
 have HC : Hid (lyClean s x t = if x ≠ 0 ∧ x ≠ 42 then (t.delete s).2 else t) := rfl
 have HD := Qh (Qa hlp (Qa hDl hDs))
 clear hd hlp hDl hDs hsh
 generalize t.delete s = r at *
 by_cases h0 : x = 0
 · subst h0
   have hc : Hid (lyClean s 0 t = t) := HC.out.trans (if_neg (by simp))
   go_enter_d Tryz.func143, Tryz.ntmps143
   go_wp2
   go_end0
   exact ⟨rfl, by rw [hc.out]; exact HS.out⟩
 by_cases h1 : x = 42
 · subst h1
   have hc : Hid (lyClean s 42 t = t) := HC.out.trans (if_neg (by simp))
   go_enter_d Tryz.func143, Tryz.ntmps143
   go_wp2
   go_end0
   exact ⟨rfl, by rw [hc.out]; exact HS.out⟩
 have hc : Hid (lyClean s x t = r.2) := HC.out.trans (if_pos ⟨h0, h1⟩)
 have x0 : (x != 0) = true := by simp [h0]
 have x1 : (x != 42) = true := by simp [h1]
 have y0 : (x == 0) = false := by simp [h0]
 have y1 : (x == 42) = false := by simp [h1]
 go_enter_d Tryz.func143, Tryz.ntmps143
 go_wp2_with fail
 refine wp_region_held_drew (S := fun x => x.cell? ⟨bl, 0, none⟩ = some (.pointer (some ⟨lp, 0, none⟩)) ∧ x.cell? ⟨lp, 0, none⟩ = some (.pointer (some ⟨dp, 0, none⟩)) ∧ x.cell? ⟨bs, 0, none⟩ = some (.string ⟨s.toArray⟩)) (by kernel_rfl) ⟨hl, c0, hs⟩ (fun hHeld => ?_)
 refine qi 0 (by assumption) ?_
 iterate 5 (refine qk rfl (by kernel_rfl) (fun _ _ _ h => h) (by intro w hSw; (try dsimp only at hSw); go_simp; all_goals with_reducible rfl) (by (try simp only [Act.put, lz]); rfl) ?_)
 refine qo ?_
 refine qr 5 rfl (by kernel_rfl) (fun K hK => ?_)
 rw [if_pos (by rfl)]
 go_simp
 go_at_call 61
 refine DL.out.mono ?_
 rintro e w2 ⟨rfl, hm⟩
 have HM := Qh (Mv.behind (Below.drew (Below.refl w.heap.size w)) hm)
 obtain ⟨D2, _, b2, _⟩ := hm
 refine hK.out _ _ ?_ (fun hHeld => ?_)
 · exact ⟨(b2.cell (b := bl) (o := 0) hbl HD.out.2.1).trans hl, (b2.cell (b := lp) (o := 0) hlt HD.out.1).trans c0, (b2.cell (b := bs) (o := 0) hbs HD.out.2.2).trans hs⟩
 clear hK K
 try simp only [Act.put, lz]
 refine wpAnyH_done (by kernel_rfl) ?_ _
 clear hHeld DL b2
 go_wp2
 go_end0
 exact ⟨rfl, by rw [hc.out]; exact HM.out⟩
def laySS (g : Lg) (first : Int) : List (St → Int × St) := [fun t => t.drop (nm first), fun t => t.write (nm first) (hdo first), fun t => t.sync (nm first), fun t => mSwap t (g.segs ++ [first])]
theorem laySS_try (g : Lg) (first : Int) (t : St) : turnS (laySS g first) t = lgTry g t first := by
 have e : ∀ (r : Int × St) (f : St → Int × St), r.1 ≠ 0 → thenSt r f = r := fun r f h => if_pos h
 have e0 : ∀ (r : Int × St) (f : St → Int × St), r.1 = 0 → thenSt r f = f r.2 := fun r f h => if_neg (by simp [h])
 unfold lgTry laySS turnS
 by_cases h1 : (t.drop (nm first)).1 = 0
 · rw [if_neg (by simp [h1]), e0 _ _ h1]
   unfold turnS
   by_cases h2 : ((t.drop (nm first)).2.write (nm first) (hdo first)).1 = 0
   · rw [if_neg (by simp [h2]), e0 _ _ h2]
     unfold turnS
     by_cases h3 : (((t.drop (nm first)).2.write (nm first) (hdo first)).2.sync (nm first)).1 = 0
     · rw [if_neg (by simp [h3]), e0 _ _ h3]
       unfold turnS
       split
       · rfl
       rename_i h4
       rw [Decidable.not_not] at h4
       exact Prod.ext h4.symm rfl
     rw [if_pos h3, e _ _ h3]
   rw [if_pos h2, e _ _ h2, e _ _ h2]
 rw [if_pos h1, e _ _ h1, e _ _ h1, e _ _ h1]
abbrev lyF : Nat → FuncId
 | 0 => 144
 | 1 => 145
 | 2 => 147
 | _ => 148
abbrev lyC (bl bs bf bg : Nat) : Nat → Array Value
 | 0 => #[.pointer (some ⟨bl, 0, none⟩), .pointer (some ⟨bs, 0, none⟩)]
 | 1 => #[.pointer (some ⟨bl, 0, none⟩), .pointer (some ⟨bs, 0, none⟩), .pointer (some ⟨bf, 0, none⟩)]
 | 2 => #[.pointer (some ⟨bl, 0, none⟩), .pointer (some ⟨bs, 0, none⟩)]
 | _ => #[.pointer (some ⟨bl, 0, none⟩), .pointer (some ⟨bg, 0, none⟩)]
theorem lays_any (hd : DK w0 w dp t D) (c0 : w.cell? ⟨lp, 0, none⟩ = some (.pointer (some ⟨dp, 0, none⟩))) (hlp : ¬ D lp) (hl : w.cell? ⟨bl, 0, none⟩ = some (.pointer (some ⟨lp, 0, none⟩))) (hDl : ¬ D bl)
 (gb bs bf bg : Nat) (g : Lg) (first : Int) (hs : w.cell? ⟨bs, 0, none⟩ = some (.string ⟨(nm first).toArray⟩)) (hDs : ¬ D bs) (hf : w.cell? ⟨bf, 0, none⟩ = some (.int .i64 first)) (hDf : ¬ D bf)
 (a : Option Addr) (n c : Nat) (hg : w.cell? ⟨bg, 0, none⟩ = some (.slice a n c)) (hDg : ¬ D bg) (hr : Row w w.heap.size a n c 1 (intsC (g.segs ++ [first]))) (hn : (g.segs ++ [first]).length = n) (hfar : ∀ k o, a = some ⟨k, o, none⟩ → ¬ D k)
 (hDb : ¬ D gb) (hc4 : ∀ k, k < 4 → w.cell? ⟨gb, k, none⟩ = some (.func (.func (lyF k)) #[] (lyC bl bs bf bg k))) :
 Calls Tryz.prog 31 #[.slice (some ⟨gb, 0, none⟩) 4 4] w fun e w' => e = .returned (.int .i64 (lgTry g t first).1) ∧ Mv w0 w dp D (lgTry g t first).2 w' := by
 have hbl : bl < w.heap.size := block_lt_of_cell hl
 have hlt : lp < w.heap.size := block_lt_of_cell c0
 have hbs : bs < w.heap.size := block_lt_of_cell hs
 have hbf : bf < w.heap.size := block_lt_of_cell hf
 have hbg : bg < w.heap.size := block_lt_of_cell hg
 have hgb : gb < w.heap.size := block_lt_of_cell (hc4 0 (by omega))
 have hsh : shortS (nm first) := by have := nm_short first; unfold shortS; omega
 have k2 : ∀ x : World, (callFunc 144 (#[] ++ lyC bl bs bf bg 0)).run Tryz.prog x = .ok (.enter 144 (#[] ++ lyC bl bs bf bg 0)) x := fun x => by kernel_rfl
 have k3 : ∀ x : World, (callFunc 145 (#[] ++ lyC bl bs bf bg 1)).run Tryz.prog x = .ok (.enter 145 (#[] ++ lyC bl bs bf bg 1)) x := fun x => by kernel_rfl
 have k4 : ∀ x : World, (callFunc 147 (#[] ++ lyC bl bs bf bg 2)).run Tryz.prog x = .ok (.enter 147 (#[] ++ lyC bl bs bf bg 2)) x := fun x => by kernel_rfl
 have k5 : ∀ x : World, (callFunc 148 (#[] ++ lyC bl bs bf bg 3)).run Tryz.prog x = .ok (.enter 148 (#[] ++ lyC bl bs bf bg 3)) x := fun x => by kernel_rfl
 rw [← laySS_try]
 refine lturnS_any (laySS g first) 4 rfl lyF (fun _ => #[]) (lyC bl bs bf bg) gb w (fun t' w' => Mv w0 w dp D t' w') t (by omega) ?_ ?_ ?_ (Mv.still hd Qb)
 · rintro k s w' hk ⟨D', _, hb, _⟩
   exact (hb.cell hgb hDb).trans (hc4 k hk)
 · intro k x hk
   match k, hk with
   | 0, _ => exact k2 x
   | 1, _ => exact k3 x
   | 2, _ => exact k4 x
   | 3, _ => exact k5 x
 rintro k f s w' hf' ⟨D', hk1, hb, hD⟩
 have nD : ∀ i, i < w.heap.size → ¬ D i → ¬ D' i := fun i hi hn ho => by rcases hD i ho with h4 | h4; exact hn h4; omega
 have d0 := (hb.cell (o := 0) hlt hlp).trans c0
 have d1 := (hb.cell (o := 0) hbl hDl).trans hl
 have d2 := (hb.cell (o := 0) hbs hDs).trans hs
 have d3 := (hb.cell (o := 0) hbf hDf).trans hf
 have d4 := (hb.cell (o := 0) hbg hDg).trans hg
 match k, hf' with
 | 0, hf' =>
  injection hf' with hf'; subst hf'
  exact (lay2_any hk1 d0 (nD _ hlt hlp) d1 (nD _ hbl hDl) bs (nm first) d2 (nD _ hbs hDs) hsh).mono fun e w'' ⟨he, hm⟩ => ⟨he, Mv.then hb hD hm⟩
 | 1, hf' =>
  injection hf' with hf'; subst hf'
  exact (lay3_any hk1 d0 (nD _ hlt hlp) d1 (nD _ hbl hDl) bs bf (nm first) first d2 d3 (nD _ hbs hDs) (nD _ hbf hDf) hsh).mono fun e w'' ⟨he, hm⟩ => ⟨he, Mv.then hb hD hm⟩
 | 2, hf' =>
  injection hf' with hf'; subst hf'
  exact (lay4_any hk1 d0 (nD _ hlt hlp) d1 (nD _ hbl hDl) bs (nm first) d2 (nD _ hbs hDs) hsh).mono fun e w'' ⟨he, hm⟩ => ⟨he, Mv.then hb hD hm⟩
 | 3, hf' =>
  injection hf' with hf'; subst hf'
  exact (lay5_any hk1 d0 (nD _ hlt hlp) d1 (nD _ hbl hDl) bg (g.segs ++ [first]) a n c d4 (nD _ hbg hDg) (hr.but hb (fun _ => hfar)) hn (fun k o e => by
   by_cases hk0 : k < w.heap.size
   · exact nD k hk0 (hfar k o e)
   exfalso
   obtain ⟨b, o', e', hb', _⟩ := hr.at_ (by rw [← hn]; simp)
   rw [e] at e'
   injection e' with e'
   injection e' with e1
   omega)).mono fun e w'' ⟨he, hm⟩ => ⟨he, Mv.then hb hD hm⟩
 | k + 4, hf' => simp [laySS] at hf'
end
end
section
open Go.RowKit Go.Sort Go.Maps Go.Shelf
open Crc Frm
open Sgn
attribute [local go_sem] Oper.semAt_some
theorem OwnV.mono_ {w : World} {base base' : Nat} {e : TypeId} {v : Value} {us : List Value} (h : OwnV w base e v us) (hb : base' ≤ base) : OwnV w base' e v us := by
 refine ⟨h.1, ?_⟩
 rcases h.2 with h2 | ⟨g, cap, cur, h1, h2, r⟩
 · exact .inl h2
 exact .inr ⟨g, cap, cur, h1, Nat.le_trans hb h2, r⟩
theorem OwnV.nil_own {w : World} {base : Nat} {e : TypeId} {v : Value} {us : List Value} (h : OwnV w base e v us) : ∀ n c, v = .slice none n c → n = 0 ∧ c = 0 := by
 intro n c e1
 rcases h.2 with ⟨h1, _⟩ | ⟨g, cap, cur, h1, _⟩
 · rw [h1] at e1
   injection e1 with _ e2 e3
   exact ⟨e2.symm, e3.symm⟩
 rw [h1] at e1
 injection e1 with e2
 cases e2
theorem OwnV.out_ {w : World} {base : Nat} {e : TypeId} {v : Value} {l : List Int} (h : OwnV w base e v (i64V l)) :
 ∃ a c, v = .slice a l.length c ∧ Row w w.heap.size a l.length c 1 (intsC l) ∧ ∀ k o, a = some ⟨k, o, none⟩ → base ≤ k := by
 have h0 := h
 rcases h.2 with ⟨h1, h2⟩ | ⟨g, cap, cur, h1, h2, h3, h4, h5, h6⟩
 · subst h1
   have hl : l = [] := by simpa using h2
   subst hl
   exact ⟨none, 0, rfl, ⟨Nat.le_refl _, by simp [maxLen], fun hn => absurd hn (by simp)⟩, fun k o hk => by cases hk⟩
 subst h1
 have hn := h0.len
 rw [List.length_map] at hn
 have R := row_own h0
 have hm : (i64V l).length = l.length := List.length_map _
 rw [hm] at R
 refine ⟨_, cap, by rw [hm], R, fun k o hk => ?_⟩
 injection hk with hk
 injection hk with hk
 rw [← hk]
 exact h0.base_.1
theorem row_lit1 {x : World} {g : Nat} {v : Int} (h : x.heap[g]? = some (.cells #[.int .i64 v] 2 (0, 0))) : Row x x.heap.size (some ⟨g, 0, none⟩) 1 1 1 (intsC [v]) :=
 Row.new h (fun j hj => by have : j = 0 := by omega
                           subst this; rfl) (by decide)
structure SegBox (w2 wx : World) (p : Value) (N : Nat) (l : List Int) : Prop where
 ex : ∃ gb a c, p = .pointer (some ⟨gb, 0, none⟩) ∧ wx.cell? ⟨gb, 0, none⟩ = some (.slice a N c) ∧ Row wx wx.heap.size a N c 1 (intsC l) ∧ (∀ k o, a = some ⟨k, o, none⟩ → w2.heap.size ≤ k ∧ k < wx.heap.size ∧ k ≠ gb) ∧ w2.heap.size ≤ gb ∧ gb < wx.heap.size ∧ (a = none → N = 0 ∧ c = 0)
 below : Below w2.heap.size w2 wx
theorem SegBox.store {w2 x : World} {gb N : Nat} {a : Option Addr} {c : Nat} {l : List Int} (hB : Below w2.heap.size w2 x) (hX : x.heap[gb]? = some (.cells #[.slice none 0 0] 50 (0, 0))) (hg : w2.heap.size ≤ gb)
 (hr : Row x x.heap.size a N c 1 (intsC l)) (hb : ∀ k o, a = some ⟨k, o, none⟩ → w2.heap.size ≤ k ∧ k < x.heap.size ∧ k ≠ gb) (hnil : a = none → N = 0 ∧ c = 0) : SegBox w2 (x.setCell ⟨gb, 0, none⟩ (.slice a N c)) (.pointer (some ⟨gb, 0, none⟩)) N l := by
 have hlt := lt_of_heap hX
 refine ⟨⟨gb, a, c, rfl, World.cell?_setCell_same _ _ _ ((cell_of_row x gb 0 _ _ _ hX).trans rfl), ?_, fun k o e => by have := hb k o e; simpa using this, hg, by simpa using hlt, hnil⟩, hB.setCell (p := ⟨gb, 0, none⟩) hg _⟩
 exact hr.but ((But.refl (fun k => k = gb) x).setCell (p := ⟨gb, 0, none⟩) (.inl rfl) _) (fun _ k o e => (hb k o e).2.2)
section
variable {w0 w : World} {dp lp size : Nat} {g : Lg} {t : St} {D : Nat → Prop} {sa : Option Addr} {sc : Nat}
theorem lglay_any (h : LK w0 w dp lp size g t D sa sc) (first : Int) (hL : Laid w0) (hlen : g.segs.length ≤ 1000) :
 Calls Tryz.prog 84 #[.pointer (some ⟨lp, 0, none⟩), .int .i64 first] w fun e w' => e = .returned (.int .i64 (lgLay g t first).1) ∧ LMv w0 w dp lp size (lO D lp sa) (lgLay g t first).2.2 (lgLay g t first).2.1 w' := by
 have hmf : ∀ (fn : Fn) (first cap : Array Value) (w : World), (Instr.makeFunc fn first cap).run Tryz.prog w = .ok (.func fn first cap) w := fun _ _ _ _ => rfl
 have hlt := h.at_.lt
 have hDlt := h.dk.lt
 obtain ⟨w3, hw3⟩ : ∃ w3, w3 = ((w.alloc (.cells #[.pointer (some ⟨lp, 0, none⟩)] 29)).alloc (.cells #[.int .i64 first] 2)).alloc (.cells #[.int .i64 0] 30) := ⟨_, rfl⟩
 have hB3 : Below w.heap.size w w3 := by rw [hw3]; exact ((Qb.alloc Qn _).alloc (by simp) _).alloc (by simp; omega) _
 have hs3 : w3.heap.size = w.heap.size + 3 := by rw [hw3]; simp
 have hl3 : w3.cell? ⟨w.heap.size, 0, none⟩ = some (.pointer (some ⟨lp, 0, none⟩)) := by rw [hw3]; simp [go_sem]
 have hf3 : w3.cell? ⟨w.heap.size + 1, 0, none⟩ = some (.int .i64 first) := by rw [hw3]; simp [go_sem]
 have he3 : w3.cell? ⟨w.heap.size + 2, 0, none⟩ = some (.int .i64 0) := by rw [hw3]; simp [go_sem]
 have hz3 : w3.frozen? ⟨w.heap.size + 2, 0, none⟩ = false := by rw [hw3]; simp [go_sem]
 have NM := name_any first w3 ((h.laid hL).on hB3)
 rw [hw3] at NM
 have NM := Qh NM
 obtain ⟨N, hN⟩ : ∃ N, N = (g.segs ++ [first]).length := ⟨_, rfl⟩
 have hN1 : Hid (N = g.segs.length + 1) := by show _ = _; rw [hN]; simp
 have HK := Qh (Qa h (Qa hL (Qa hN (Qa hB3 (Qa hs3 (Qa hl3 (Qa hf3 (Qa he3 hz3))))))))
 clear h hL hB3 hs3 hl3 hf3 he3 hz3 hN
 go_enter_defers Tryz.func84, Tryz.ntmps84
 go_wp2_with fail
 refine NM.out.mono ?_
 rintro e w1 ⟨rfl, hb1⟩
 rw [← hw3] at hb1
 go_wp2_with fail
 obtain ⟨w2, hw2⟩ : ∃ w2, w2 = w1.alloc (.cells #[.string ⟨(nm first).toArray⟩] 9) := ⟨_, rfl⟩
 have hb2 : Below w3.heap.size w3 w2 := by rw [hw2]; exact hb1.alloc hb1.size _
 have hz2 : w2.heap.size = w1.heap.size + 1 := by rw [hw2]; simp
 have hz1 := hb1.size
 have hn2 : w2.cell? ⟨w1.heap.size, 0, none⟩ = some (.string ⟨(nm first).toArray⟩) := by rw [hw2]; exact cell_of_one (heap_alloc_new _ _)
 have hB2 : Below w.heap.size w w2 := HK.out.2.2.2.1.trans (hb2.mono HK.out.2.2.2.1.size)
 have hs3 := HK.out.2.2.2.2.1
 have hl2 := (hb2.cell (p := ⟨w.heap.size, 0, none⟩) (by show w.heap.size < _; omega)).trans HK.out.2.2.2.2.2.1
 have hf2 := (hb2.cell (p := ⟨w.heap.size + 1, 0, none⟩) (by show w.heap.size + 1 < _; omega)).trans HK.out.2.2.2.2.2.2.1
 have he2 := (hb2.cell (p := ⟨w.heap.size + 2, 0, none⟩) (by show w.heap.size + 2 < _; omega)).trans HK.out.2.2.2.2.2.2.2.1
 have hq2 := (hb2.frozen (p := ⟨w.heap.size + 2, 0, none⟩) (by show w.heap.size + 2 < _; omega)).trans HK.out.2.2.2.2.2.2.2.2
 have hLK := HK.out.1.on hB2
 have hc2 := hLK.at_.c2
 have SH : Hid (∀ x, Below w2.heap.size w2 x → x.cell? ⟨w.heap.size, 0, none⟩ = some (.pointer (some ⟨lp, 0, none⟩)) ∧ x.cell? ⟨lp, 2, none⟩ = some (.slice sa g.segs.length sc) ∧ x.cell? ⟨w.heap.size + 1, 0, none⟩ = some (.int .i64 first)) := fun x hb =>
  ⟨(hb.cell (p := ⟨w.heap.size, 0, none⟩) (by show w.heap.size < _; omega)).trans hl2, (hb.cell (p := ⟨lp, 2, none⟩) (by show lp < _; omega)).trans hc2, (hb.cell (p := ⟨w.heap.size + 1, 0, none⟩) (by show w.heap.size + 1 < _; omega)).trans hf2⟩
 have CL : Hid (∀ x, Below w2.heap.size w2 x → Calls Tryz.prog 58 #[.slice sa g.segs.length sc] x fun e w' => ∃ v, e = .returned v ∧ OwnV w' x.heap.size 2 v (i64V g.segs) ∧ Below x.heap.size x w') := fun x hb =>
  clone_ints sa g.segs.length sc g.segs x (hLK.at_.row.on9 hb) rfl hLK.at_.nil_ (by omega)
 have H2 := Qh (Qa hB2 (Qa hb2 (Qa hl2 (Qa hf2 (Qa he2 (Qa hq2 (Qa hn2 hLK)))))))
 clear hB2 hb2 he2 hq2 hn2 hLK hb1 NM
 rw [← hw2]
 have hwz : w.heap.size + 4 ≤ w2.heap.size := by omega
 have hw12 : w1.heap.size < w2.heap.size := by omega
 have hw1z : w.heap.size + 3 ≤ w1.heap.size := by omega
 have W2 := Qh (Qa hw2 hz2)
 clear hw2 hz2 hz1
 go_cut [6] from 7 (fun p wx => SegBox w2 wx p N (g.segs ++ [first]))
 case first =>
  refine wp_region_noPanic ?_
  refine wp_region_held_drew (S := fun x => x.cell? ⟨w.heap.size, 0, none⟩ = some (.pointer (some ⟨lp, 0, none⟩)) ∧ x.cell? ⟨lp, 2, none⟩ = some (.slice sa g.segs.length sc) ∧ x.cell? ⟨w.heap.size + 1, 0, none⟩ = some (.int .i64 first)) (by kernel_rfl) (SH.out _ (Below.drew Qb)) (fun hHeld => ?_)
  have HB0 : Below w2.heap.size w2 w2.drew := Below.drew Qb
  clear hl2 hc2 hf2
  have c1 := (SH.out _ HB0).1
  have c2 := (SH.out _ HB0).2.1
  have c3 := (SH.out _ HB0).2.2
  refine qi 0 (by assumption) ?_
  iterate 4 (refine qk rfl (by kernel_rfl) (fun _ _ _ h => h) (by intro w hSw; (try dsimp only at hSw); go_simp; all_goals with_reducible rfl) (by (try simp only [Act.put, lz]); rfl) ?_)
  refine qo (qi 5 (by assumption) ?_)
  refine qk rfl (by kernel_rfl) (fun _ _ _ h => h) (by intro w hSw; (try dsimp only at hSw); go_simp; all_goals with_reducible rfl) (by (try simp only [Act.put, lz]); rfl) ?_
  refine qo ?_
  clear c1 c2 c3
  refine wpAnyH_ready (rs := [4, 6, 8]) (by kernel_rfl) (by simp) ?_
  refine AllReadyH.cons rfl (fun K hK => ?_) (AllReadyH.cons rfl (fun K hK => ?_) (AllReadyH.cons rfl (fun K hK => ?_) AllReadyH.nil))
  · rw [if_pos (by rfl)]
    go_simp
    go_at_call 58
    refine (CL.out _ HB0).mono ?_
    rintro e x1 ⟨v1, rfl, ho1, hy1⟩
    have hs1 := HB0.size
    have HBx1 : Below w2.heap.size w2 x1 := HB0.trans (hy1.mono hs1)
    have hp1 := ho1.mono_ (base' := w2.heap.size) hs1
    refine hK.out _ _ ?_ (fun hHeld => ?_)
    · exact SH.out _ HBx1
    clear hK K
    try simp only [Act.put, lz]
    refine wpAnyH_ready (rs := [6, 8]) (by kernel_rfl) (by simp) ?_
    refine AllReadyH.cons rfl (fun K hK => ?_) (AllReadyH.cons rfl (fun K hK => ?_) AllReadyH.nil)
    · rw [if_pos (by rfl)]
      go_simp
      obtain ⟨x2, e2⟩ : ∃ x, x = x1.alloc (.cells #[.int .i64 first] 2) := ⟨_, rfl⟩
      rw [← e2]
      have HBx2 : Below w2.heap.size w2 x2 := by rw [e2]; exact HBx1.alloc HBx1.size _
      have hn2 : x2.heap[x1.heap.size]? = some (.cells #[.int .i64 first] 2 (0, 0)) := by rw [e2]; exact heap_alloc_new _ _
      have ho2 : OwnV x2 w2.heap.size 2 v1 (i64V g.segs) := by rw [e2]; exact hp1.alloc _
      clear e2
      refine hK.out _ _ ?_ (fun hHeld => ?_)
      · exact SH.out _ HBx2
      clear hK K
      try simp only [Act.put, lz]
      refine wpAnyH_ready (rs := [7, 8]) (by kernel_rfl) (by simp) ?_
      refine AllReadyH.cons rfl (fun K hK => ?_) (AllReadyH.cons rfl (fun K hK => ?_) AllReadyH.nil)
      · rw [if_pos (by rfl)]
        refine wp_append_ints (.tmp 13) (.tmp 15) 50 rfl w2.heap.size _ Tryz.underlying50 info_i64L v1 g.segs (by rfl) ho2 _ (some ⟨x1.heap.size, 0, none⟩) 1 1 [first] (by rfl) (row_lit1 hn2) rfl (fun h => by cases h) (by omega) HBx2.size ?_
        intro v3 x3 ho3 hg3 hw3
        have HBx3 : Below w2.heap.size w2 x3 := HBx2.grown hg3 HBx2.size (fun k hk => (ho2.at_base hk).1)
        have hol : ∀ k, v3.ownBlock = some k → w2.heap.size ≤ k ∧ k < x3.heap.size := fun k hk => ho3.at_base hk
        obtain ⟨a2, c2, hv3, hr, _⟩ := OwnV.out_ ho3
        have hnil0 := OwnV.nil_own ho3
        rw [← HK.out.2.2.1] at hv3 hr
        subst hv3
        have hnil : a2 = none → N = 0 ∧ c2 = 0 := fun h => by subst h; exact hnil0 _ _ rfl
        have hbl : ∀ k o, a2 = some ⟨k, o, none⟩ → w2.heap.size ≤ k ∧ k < x3.heap.size := fun k o e => by subst e; exact hol k rfl
        clear ho3 hol hnil0
        refine hK.out _ _ ?_ (fun hHeld => ?_)
        · exact SH.out _ HBx3
        clear hK K
        try simp only [Act.put, lz]
        refine qr 8 rfl (by kernel_rfl) (fun K hK => ?_)
        · rw [if_pos (by rfl)]
          go_simp
          obtain ⟨x4, e4⟩ : ∃ x, x = x3.alloc (.cells #[.slice none 0 0] 50) := ⟨_, rfl⟩
          rw [← e4]
          have HBx4 : Below w2.heap.size w2 x4 := by rw [e4]; exact HBx3.alloc HBx3.size _
          have hn4 : x4.heap[x3.heap.size]? = some (.cells #[.slice none 0 0] 50 (0, 0)) := by rw [e4]; exact heap_alloc_new _ _
          have hgb : w2.heap.size ≤ x3.heap.size := HBx3.size
          have hr : Row x4 x4.heap.size a2 N c2 1 (intsC (g.segs ++ [first])) := by rw [e4]; exact hr.on9 (Qb.alloc Qn _)
          have hbb : ∀ k o, a2 = some ⟨k, o, none⟩ → w2.heap.size ≤ k ∧ k < x4.heap.size ∧ k ≠ x3.heap.size := fun k o e => by have h1 := hbl k o e; rw [e4]; simp; omega
          clear e4
          refine hK.out _ _ ?_ (fun hHeld => ?_)
          · exact SH.out _ HBx4
          clear hK K
          try simp only [Act.put, lz]
          have cb : x4.cell? ⟨x3.heap.size, 0, none⟩ = some (.slice none 0 0) := (cell_of_row x4 x3.heap.size 0 _ _ _ hn4).trans rfl
          have zb : x4.frozen? ⟨x3.heap.size, 0, none⟩ = false := frozen_of_row x4 x3.heap.size 0 _ _ hn4
          refine qr 9 rfl (by kernel_rfl) (fun K hK => ?_)
          rw [if_pos (by rfl)]
          go_simp
          have SB := SegBox.store HBx4 hn4 hgb hr hbb hnil
          refine hK.out _ _ ?_ (fun hHeld => ?_)
          · exact SH.out _ SB.below
          clear hK K
          try simp only [Act.put, lz]
          refine wpAnyH_done (by kernel_rfl) ?_ _
          refine NoPanic.normal ?_
          go_wp2_with fail
          go_meet
          case rel => exact SB
      rw [if_pos (by rfl)]
      go_simp
      obtain ⟨x6, e6⟩ : ∃ x, x = x2.alloc (.cells #[.slice none 0 0] 50) := ⟨_, rfl⟩
      rw [← e6]
      have HBx6 : Below w2.heap.size w2 x6 := by rw [e6]; exact HBx2.alloc HBx2.size _
      have hn6 : x6.heap[x2.heap.size]? = some (.cells #[.slice none 0 0] 50 (0, 0)) := by rw [e6]; exact heap_alloc_new _ _
      have ho6 : OwnV x6 w2.heap.size 2 v1 (i64V g.segs) := by rw [e6]; exact ho2.alloc _
      have hl6 : x6.heap[x1.heap.size]? = some (.cells #[.int .i64 first] 2 (0, 0)) := by rw [e6]; exact (heap_alloc_old _ _ (lt_of_heap hn2)).trans hn2
      have hgb : w2.heap.size ≤ x2.heap.size := HBx2.size
      have hne : v1.ownBlock ≠ some x2.heap.size := fun e => by have h1 := (ho2.at_base e).2; omega
      clear e6
      refine hK.out _ _ ?_ (fun hHeld => ?_)
      · exact SH.out _ HBx6
      clear hK K
      try simp only [Act.put, lz]
      refine qr 7 rfl (by kernel_rfl) (fun K hK => ?_)
      · rw [if_pos (by rfl)]
        refine wp_append_ints (.tmp 13) (.tmp 15) 50 rfl w2.heap.size _ Tryz.underlying50 info_i64L v1 g.segs (by rfl) ho6 _ (some ⟨x1.heap.size, 0, none⟩) 1 1 [first] (by rfl) (row_lit1 hl6) rfl (fun h => by cases h) (by omega) HBx6.size ?_
        intro v7 x7 ho7 hg7 hw7
        have HBx7 : Below w2.heap.size w2 x7 := HBx6.grown hg7 HBx6.size (fun k hk => (ho6.at_base hk).1)
        have hx7 := (hg7.block _ (lt_of_heap hn6) (fun e => hne e.symm)).trans hn6
        have hne2 : v7.ownBlock ≠ some x2.heap.size := fun e => by rcases hw7 with h1 | h1; exact hne (h1.symm.trans e); have h2 := lt_of_heap hn6; rw [h1] at e; injection e with e; omega
        have hol : ∀ k, v7.ownBlock = some k → w2.heap.size ≤ k ∧ k < x7.heap.size := fun k hk => ho7.at_base hk
        obtain ⟨a2, c2, hv7, hr, _⟩ := OwnV.out_ ho7
        have hnil0 := OwnV.nil_own ho7
        rw [← HK.out.2.2.1] at hv7 hr
        subst hv7
        have hnil : a2 = none → N = 0 ∧ c2 = 0 := fun h => by subst h; exact hnil0 _ _ rfl
        have hbl : ∀ k o, a2 = some ⟨k, o, none⟩ → w2.heap.size ≤ k ∧ k < x7.heap.size := fun k o e => by subst e; exact hol k rfl
        have hbb : ∀ k o, a2 = some ⟨k, o, none⟩ → w2.heap.size ≤ k ∧ k < x7.heap.size ∧ k ≠ x2.heap.size := fun k o e => by have h1 := hbl k o e; refine ⟨h1.1, h1.2, fun h => ?_⟩; subst e; subst h; exact hne2 rfl
        clear ho7 hol hnil0
        refine hK.out _ _ ?_ (fun hHeld => ?_)
        · exact SH.out _ HBx7
        clear hK K
        try simp only [Act.put, lz]
        have cb : x7.cell? ⟨x2.heap.size, 0, none⟩ = some (.slice none 0 0) := (cell_of_row x7 x2.heap.size 0 _ _ _ hx7).trans rfl
        have zb : x7.frozen? ⟨x2.heap.size, 0, none⟩ = false := frozen_of_row x7 x2.heap.size 0 _ _ hx7
        refine qr 9 rfl (by kernel_rfl) (fun K hK => ?_)
        rw [if_pos (by rfl)]
        go_simp
        have SB := SegBox.store HBx7 hx7 hgb hr hbb hnil
        refine hK.out _ _ ?_ (fun hHeld => ?_)
        · exact SH.out _ SB.below
        clear hK K
        try simp only [Act.put, lz]
        refine wpAnyH_done (by kernel_rfl) ?_ _
        refine NoPanic.normal ?_
        go_wp2_with fail
        go_meet
        case rel => exact SB
    rw [if_pos (by rfl)]
    go_simp
    obtain ⟨x9, e9⟩ : ∃ x, x = x1.alloc (.cells #[.slice none 0 0] 50) := ⟨_, rfl⟩
    rw [← e9]
    have HBx9 : Below w2.heap.size w2 x9 := by rw [e9]; exact HBx1.alloc HBx1.size _
    have hn9 : x9.heap[x1.heap.size]? = some (.cells #[.slice none 0 0] 50 (0, 0)) := by rw [e9]; exact heap_alloc_new _ _
    have ho9 : OwnV x9 w2.heap.size 2 v1 (i64V g.segs) := by rw [e9]; exact hp1.alloc _
    have hgb : w2.heap.size ≤ x1.heap.size := HBx1.size
    have hne : v1.ownBlock ≠ some x1.heap.size := fun e => by have h1 := (hp1.at_base e).2; omega
    clear e9
    refine hK.out _ _ ?_ (fun hHeld => ?_)
    · exact SH.out _ HBx9
    clear hK K
    try simp only [Act.put, lz]
    refine qr 6 rfl (by kernel_rfl) (fun K hK => ?_)
    · rw [if_pos (by rfl)]
      go_simp
      obtain ⟨x10, e10⟩ : ∃ x, x = x9.alloc (.cells #[.int .i64 first] 2) := ⟨_, rfl⟩
      rw [← e10]
      have HBx10 : Below w2.heap.size w2 x10 := by rw [e10]; exact HBx9.alloc HBx9.size _
      have hn10 : x10.heap[x9.heap.size]? = some (.cells #[.int .i64 first] 2 (0, 0)) := by rw [e10]; exact heap_alloc_new _ _
      have ho10 : OwnV x10 w2.heap.size 2 v1 (i64V g.segs) := by rw [e10]; exact ho9.alloc _
      have hx10 : x10.heap[x1.heap.size]? = some (.cells #[.slice none 0 0] 50 (0, 0)) := by rw [e10]; exact (heap_alloc_old _ _ (lt_of_heap hn9)).trans hn9
      clear e10
      refine hK.out _ _ ?_ (fun hHeld => ?_)
      · exact SH.out _ HBx10
      clear hK K
      try simp only [Act.put, lz]
      refine qr 7 rfl (by kernel_rfl) (fun K hK => ?_)
      · rw [if_pos (by rfl)]
        refine wp_append_ints (.tmp 13) (.tmp 15) 50 rfl w2.heap.size _ Tryz.underlying50 info_i64L v1 g.segs (by rfl) ho10 _ (some ⟨x9.heap.size, 0, none⟩) 1 1 [first] (by rfl) (row_lit1 hn10) rfl (fun h => by cases h) (by omega) HBx10.size ?_
        intro v11 x11 ho11 hg11 hw11
        have HBx11 : Below w2.heap.size w2 x11 := HBx10.grown hg11 HBx10.size (fun k hk => (ho10.at_base hk).1)
        have hx11 := (hg11.block _ (lt_of_heap hx10) (fun e => hne e.symm)).trans hx10
        have hne2 : v11.ownBlock ≠ some x1.heap.size := fun e => by rcases hw11 with h1 | h1; exact hne (h1.symm.trans e); have h2 := lt_of_heap hx10; rw [h1] at e; injection e with e; omega
        have hol : ∀ k, v11.ownBlock = some k → w2.heap.size ≤ k ∧ k < x11.heap.size := fun k hk => ho11.at_base hk
        obtain ⟨a2, c2, hv11, hr, _⟩ := OwnV.out_ ho11
        have hnil0 := OwnV.nil_own ho11
        rw [← HK.out.2.2.1] at hv11 hr
        subst hv11
        have hnil : a2 = none → N = 0 ∧ c2 = 0 := fun h => by subst h; exact hnil0 _ _ rfl
        have hbl : ∀ k o, a2 = some ⟨k, o, none⟩ → w2.heap.size ≤ k ∧ k < x11.heap.size := fun k o e => by subst e; exact hol k rfl
        have hbb : ∀ k o, a2 = some ⟨k, o, none⟩ → w2.heap.size ≤ k ∧ k < x11.heap.size ∧ k ≠ x1.heap.size := fun k o e => by have h1 := hbl k o e; refine ⟨h1.1, h1.2, fun h => ?_⟩; subst e; subst h; exact hne2 rfl
        clear ho11 hol hnil0
        refine hK.out _ _ ?_ (fun hHeld => ?_)
        · exact SH.out _ HBx11
        clear hK K
        try simp only [Act.put, lz]
        have cb : x11.cell? ⟨x1.heap.size, 0, none⟩ = some (.slice none 0 0) := (cell_of_row x11 x1.heap.size 0 _ _ _ hx11).trans rfl
        have zb : x11.frozen? ⟨x1.heap.size, 0, none⟩ = false := frozen_of_row x11 x1.heap.size 0 _ _ hx11
        refine qr 9 rfl (by kernel_rfl) (fun K hK => ?_)
        rw [if_pos (by rfl)]
        go_simp
        have SB := SegBox.store HBx11 hx11 hgb hr hbb hnil
        refine hK.out _ _ ?_ (fun hHeld => ?_)
        · exact SH.out _ SB.below
        clear hK K
        try simp only [Act.put, lz]
        refine wpAnyH_done (by kernel_rfl) ?_ _
        refine NoPanic.normal ?_
        go_wp2_with fail
        go_meet
        case rel => exact SB
  · rw [if_pos (by rfl)]
    go_simp
    obtain ⟨x13, e13⟩ : ∃ x, x = (w2.alloc (.cells #[.int .i64 first] 2)).drew := ⟨_, rfl⟩
    rw [← e13]
    have HBx13 : Below w2.heap.size w2 x13 := by rw [e13]; exact ((Below.refl w2.heap.size w2).alloc Qn _).drew
    have hn13 : x13.heap[w2.heap.size]? = some (.cells #[.int .i64 first] 2 (0, 0)) := by rw [e13]; exact heap_alloc_new _ _
    clear e13
    refine hK.out _ _ ?_ (fun hHeld => ?_)
    · exact SH.out _ HBx13
    clear hK K
    try simp only [Act.put, lz]
    refine wpAnyH_ready (rs := [4, 8]) (by kernel_rfl) (by simp) ?_
    refine AllReadyH.cons rfl (fun K hK => ?_) (AllReadyH.cons rfl (fun K hK => ?_) AllReadyH.nil)
    · rw [if_pos (by rfl)]
      go_simp
      go_at_call 58
      refine (CL.out _ HBx13).mono ?_
      rintro e x14 ⟨v14, rfl, ho14, hy14⟩
      have hs14 := HBx13.size
      have HBx14 : Below w2.heap.size w2 x14 := HBx13.trans (hy14.mono hs14)
      have hl14 := (hy14.block _ (lt_of_heap hn13)).trans hn13
      have hp14 := ho14.mono_ (base' := w2.heap.size) hs14
      refine hK.out _ _ ?_ (fun hHeld => ?_)
      · exact SH.out _ HBx14
      clear hK K
      try simp only [Act.put, lz]
      refine wpAnyH_ready (rs := [7, 8]) (by kernel_rfl) (by simp) ?_
      refine AllReadyH.cons rfl (fun K hK => ?_) (AllReadyH.cons rfl (fun K hK => ?_) AllReadyH.nil)
      · rw [if_pos (by rfl)]
        refine wp_append_ints (.tmp 13) (.tmp 15) 50 rfl w2.heap.size _ Tryz.underlying50 info_i64L v14 g.segs (by rfl) hp14 _ (some ⟨w2.heap.size, 0, none⟩) 1 1 [first] (by rfl) (row_lit1 hl14) rfl (fun h => by cases h) (by omega) HBx14.size ?_
        intro v15 x15 ho15 hg15 hw15
        have HBx15 : Below w2.heap.size w2 x15 := HBx14.grown hg15 HBx14.size (fun k hk => (hp14.at_base hk).1)
        have hol : ∀ k, v15.ownBlock = some k → w2.heap.size ≤ k ∧ k < x15.heap.size := fun k hk => ho15.at_base hk
        obtain ⟨a2, c2, hv15, hr, _⟩ := OwnV.out_ ho15
        have hnil0 := OwnV.nil_own ho15
        rw [← HK.out.2.2.1] at hv15 hr
        subst hv15
        have hnil : a2 = none → N = 0 ∧ c2 = 0 := fun h => by subst h; exact hnil0 _ _ rfl
        have hbl : ∀ k o, a2 = some ⟨k, o, none⟩ → w2.heap.size ≤ k ∧ k < x15.heap.size := fun k o e => by subst e; exact hol k rfl
        clear ho15 hol hnil0
        refine hK.out _ _ ?_ (fun hHeld => ?_)
        · exact SH.out _ HBx15
        clear hK K
        try simp only [Act.put, lz]
        refine qr 8 rfl (by kernel_rfl) (fun K hK => ?_)
        · rw [if_pos (by rfl)]
          go_simp
          obtain ⟨x16, e16⟩ : ∃ x, x = x15.alloc (.cells #[.slice none 0 0] 50) := ⟨_, rfl⟩
          rw [← e16]
          have HBx16 : Below w2.heap.size w2 x16 := by rw [e16]; exact HBx15.alloc HBx15.size _
          have hn16 : x16.heap[x15.heap.size]? = some (.cells #[.slice none 0 0] 50 (0, 0)) := by rw [e16]; exact heap_alloc_new _ _
          have hgb : w2.heap.size ≤ x15.heap.size := HBx15.size
          have hr : Row x16 x16.heap.size a2 N c2 1 (intsC (g.segs ++ [first])) := by rw [e16]; exact hr.on9 (Qb.alloc Qn _)
          have hbb : ∀ k o, a2 = some ⟨k, o, none⟩ → w2.heap.size ≤ k ∧ k < x16.heap.size ∧ k ≠ x15.heap.size := fun k o e => by have h1 := hbl k o e; rw [e16]; simp; omega
          clear e16
          refine hK.out _ _ ?_ (fun hHeld => ?_)
          · exact SH.out _ HBx16
          clear hK K
          try simp only [Act.put, lz]
          have cb : x16.cell? ⟨x15.heap.size, 0, none⟩ = some (.slice none 0 0) := (cell_of_row x16 x15.heap.size 0 _ _ _ hn16).trans rfl
          have zb : x16.frozen? ⟨x15.heap.size, 0, none⟩ = false := frozen_of_row x16 x15.heap.size 0 _ _ hn16
          refine qr 9 rfl (by kernel_rfl) (fun K hK => ?_)
          rw [if_pos (by rfl)]
          go_simp
          have SB := SegBox.store HBx16 hn16 hgb hr hbb hnil
          refine hK.out _ _ ?_ (fun hHeld => ?_)
          · exact SH.out _ SB.below
          clear hK K
          try simp only [Act.put, lz]
          refine wpAnyH_done (by kernel_rfl) ?_ _
          refine NoPanic.normal ?_
          go_wp2_with fail
          go_meet
          case rel => exact SB
      rw [if_pos (by rfl)]
      go_simp
      obtain ⟨x18, e18⟩ : ∃ x, x = x14.alloc (.cells #[.slice none 0 0] 50) := ⟨_, rfl⟩
      rw [← e18]
      have HBx18 : Below w2.heap.size w2 x18 := by rw [e18]; exact HBx14.alloc HBx14.size _
      have hn18 : x18.heap[x14.heap.size]? = some (.cells #[.slice none 0 0] 50 (0, 0)) := by rw [e18]; exact heap_alloc_new _ _
      have ho18 : OwnV x18 w2.heap.size 2 v14 (i64V g.segs) := by rw [e18]; exact hp14.alloc _
      have hl18 : x18.heap[w2.heap.size]? = some (.cells #[.int .i64 first] 2 (0, 0)) := by rw [e18]; exact (heap_alloc_old _ _ (lt_of_heap hl14)).trans hl14
      have hgb : w2.heap.size ≤ x14.heap.size := HBx14.size
      have hne : v14.ownBlock ≠ some x14.heap.size := fun e => by have h1 := (hp14.at_base e).2; omega
      clear e18
      refine hK.out _ _ ?_ (fun hHeld => ?_)
      · exact SH.out _ HBx18
      clear hK K
      try simp only [Act.put, lz]
      refine qr 7 rfl (by kernel_rfl) (fun K hK => ?_)
      · rw [if_pos (by rfl)]
        refine wp_append_ints (.tmp 13) (.tmp 15) 50 rfl w2.heap.size _ Tryz.underlying50 info_i64L v14 g.segs (by rfl) ho18 _ (some ⟨w2.heap.size, 0, none⟩) 1 1 [first] (by rfl) (row_lit1 hl18) rfl (fun h => by cases h) (by omega) HBx18.size ?_
        intro v19 x19 ho19 hg19 hw19
        have HBx19 : Below w2.heap.size w2 x19 := HBx18.grown hg19 HBx18.size (fun k hk => (ho18.at_base hk).1)
        have hx19 := (hg19.block _ (lt_of_heap hn18) (fun e => hne e.symm)).trans hn18
        have hne2 : v19.ownBlock ≠ some x14.heap.size := fun e => by rcases hw19 with h1 | h1; exact hne (h1.symm.trans e); have h2 := lt_of_heap hn18; rw [h1] at e; injection e with e; omega
        have hol : ∀ k, v19.ownBlock = some k → w2.heap.size ≤ k ∧ k < x19.heap.size := fun k hk => ho19.at_base hk
        obtain ⟨a2, c2, hv19, hr, _⟩ := OwnV.out_ ho19
        have hnil0 := OwnV.nil_own ho19
        rw [← HK.out.2.2.1] at hv19 hr
        subst hv19
        have hnil : a2 = none → N = 0 ∧ c2 = 0 := fun h => by subst h; exact hnil0 _ _ rfl
        have hbl : ∀ k o, a2 = some ⟨k, o, none⟩ → w2.heap.size ≤ k ∧ k < x19.heap.size := fun k o e => by subst e; exact hol k rfl
        have hbb : ∀ k o, a2 = some ⟨k, o, none⟩ → w2.heap.size ≤ k ∧ k < x19.heap.size ∧ k ≠ x14.heap.size := fun k o e => by have h1 := hbl k o e; refine ⟨h1.1, h1.2, fun h => ?_⟩; subst e; subst h; exact hne2 rfl
        clear ho19 hol hnil0
        refine hK.out _ _ ?_ (fun hHeld => ?_)
        · exact SH.out _ HBx19
        clear hK K
        try simp only [Act.put, lz]
        have cb : x19.cell? ⟨x14.heap.size, 0, none⟩ = some (.slice none 0 0) := (cell_of_row x19 x14.heap.size 0 _ _ _ hx19).trans rfl
        have zb : x19.frozen? ⟨x14.heap.size, 0, none⟩ = false := frozen_of_row x19 x14.heap.size 0 _ _ hx19
        refine qr 9 rfl (by kernel_rfl) (fun K hK => ?_)
        rw [if_pos (by rfl)]
        go_simp
        have SB := SegBox.store HBx19 hx19 hgb hr hbb hnil
        refine hK.out _ _ ?_ (fun hHeld => ?_)
        · exact SH.out _ SB.below
        clear hK K
        try simp only [Act.put, lz]
        refine wpAnyH_done (by kernel_rfl) ?_ _
        refine NoPanic.normal ?_
        go_wp2_with fail
        go_meet
        case rel => exact SB
    rw [if_pos (by rfl)]
    go_simp
    obtain ⟨x21, e21⟩ : ∃ x, x = x13.alloc (.cells #[.slice none 0 0] 50) := ⟨_, rfl⟩
    rw [← e21]
    have HBx21 : Below w2.heap.size w2 x21 := by rw [e21]; exact HBx13.alloc HBx13.size _
    have hn21 : x21.heap[x13.heap.size]? = some (.cells #[.slice none 0 0] 50 (0, 0)) := by rw [e21]; exact heap_alloc_new _ _
    have hl21 : x21.heap[w2.heap.size]? = some (.cells #[.int .i64 first] 2 (0, 0)) := by rw [e21]; exact (heap_alloc_old _ _ (lt_of_heap hn13)).trans hn13
    have hgb : w2.heap.size ≤ x13.heap.size := HBx13.size
    clear e21
    refine hK.out _ _ ?_ (fun hHeld => ?_)
    · exact SH.out _ HBx21
    clear hK K
    try simp only [Act.put, lz]
    refine qr 4 rfl (by kernel_rfl) (fun K hK => ?_)
    · rw [if_pos (by rfl)]
      go_simp
      go_at_call 58
      refine (CL.out _ HBx21).mono ?_
      rintro e x22 ⟨v22, rfl, ho22, hy22⟩
      have hs22 := HBx21.size
      have HBx22 : Below w2.heap.size w2 x22 := HBx21.trans (hy22.mono hs22)
      have hl22 := (hy22.block _ (lt_of_heap hl21)).trans hl21
      have hx22 := (hy22.block _ (lt_of_heap hn21)).trans hn21
      have hne : v22.ownBlock ≠ some x13.heap.size := fun e => by have h1 := (ho22.at_base e).1; have h2 := lt_of_heap hn21; omega
      have hp22 := ho22.mono_ (base' := w2.heap.size) hs22
      refine hK.out _ _ ?_ (fun hHeld => ?_)
      · exact SH.out _ HBx22
      clear hK K
      try simp only [Act.put, lz]
      refine qr 7 rfl (by kernel_rfl) (fun K hK => ?_)
      · rw [if_pos (by rfl)]
        refine wp_append_ints (.tmp 13) (.tmp 15) 50 rfl w2.heap.size _ Tryz.underlying50 info_i64L v22 g.segs (by rfl) hp22 _ (some ⟨w2.heap.size, 0, none⟩) 1 1 [first] (by rfl) (row_lit1 hl22) rfl (fun h => by cases h) (by omega) HBx22.size ?_
        intro v23 x23 ho23 hg23 hw23
        have HBx23 : Below w2.heap.size w2 x23 := HBx22.grown hg23 HBx22.size (fun k hk => (hp22.at_base hk).1)
        have hx23 := (hg23.block _ (lt_of_heap hx22) (fun e => hne e.symm)).trans hx22
        have hne2 : v23.ownBlock ≠ some x13.heap.size := fun e => by rcases hw23 with h1 | h1; exact hne (h1.symm.trans e); have h2 := lt_of_heap hx22; rw [h1] at e; injection e with e; omega
        have hol : ∀ k, v23.ownBlock = some k → w2.heap.size ≤ k ∧ k < x23.heap.size := fun k hk => ho23.at_base hk
        obtain ⟨a2, c2, hv23, hr, _⟩ := OwnV.out_ ho23
        have hnil0 := OwnV.nil_own ho23
        rw [← HK.out.2.2.1] at hv23 hr
        subst hv23
        have hnil : a2 = none → N = 0 ∧ c2 = 0 := fun h => by subst h; exact hnil0 _ _ rfl
        have hbl : ∀ k o, a2 = some ⟨k, o, none⟩ → w2.heap.size ≤ k ∧ k < x23.heap.size := fun k o e => by subst e; exact hol k rfl
        have hbb : ∀ k o, a2 = some ⟨k, o, none⟩ → w2.heap.size ≤ k ∧ k < x23.heap.size ∧ k ≠ x13.heap.size := fun k o e => by have h1 := hbl k o e; refine ⟨h1.1, h1.2, fun h => ?_⟩; subst e; subst h; exact hne2 rfl
        clear ho23 hol hnil0
        refine hK.out _ _ ?_ (fun hHeld => ?_)
        · exact SH.out _ HBx23
        clear hK K
        try simp only [Act.put, lz]
        have cb : x23.cell? ⟨x13.heap.size, 0, none⟩ = some (.slice none 0 0) := (cell_of_row x23 x13.heap.size 0 _ _ _ hx23).trans rfl
        have zb : x23.frozen? ⟨x13.heap.size, 0, none⟩ = false := frozen_of_row x23 x13.heap.size 0 _ _ hx23
        refine qr 9 rfl (by kernel_rfl) (fun K hK => ?_)
        rw [if_pos (by rfl)]
        go_simp
        have SB := SegBox.store HBx23 hx23 hgb hr hbb hnil
        refine hK.out _ _ ?_ (fun hHeld => ?_)
        · exact SH.out _ SB.below
        clear hK K
        try simp only [Act.put, lz]
        refine wpAnyH_done (by kernel_rfl) ?_ _
        refine NoPanic.normal ?_
        go_wp2_with fail
        go_meet
        case rel => exact SB
  rw [if_pos (by rfl)]
  go_simp
  obtain ⟨x25, e25⟩ : ∃ x, x = (w2.alloc (.cells #[.slice none 0 0] 50)).drew := ⟨_, rfl⟩
  rw [← e25]
  have HBx25 : Below w2.heap.size w2 x25 := by rw [e25]; exact ((Below.refl w2.heap.size w2).alloc Qn _).drew
  have hn25 : x25.heap[w2.heap.size]? = some (.cells #[.slice none 0 0] 50 (0, 0)) := by rw [e25]; exact heap_alloc_new _ _
  have hgb : w2.heap.size ≤ w2.heap.size := Nat.le_refl _
  clear e25
  refine hK.out _ _ ?_ (fun hHeld => ?_)
  · exact SH.out _ HBx25
  clear hK K
  try simp only [Act.put, lz]
  refine wpAnyH_ready (rs := [4, 6]) (by kernel_rfl) (by simp) ?_
  refine AllReadyH.cons rfl (fun K hK => ?_) (AllReadyH.cons rfl (fun K hK => ?_) AllReadyH.nil)
  · rw [if_pos (by rfl)]
    go_simp
    go_at_call 58
    refine (CL.out _ HBx25).mono ?_
    rintro e x26 ⟨v26, rfl, ho26, hy26⟩
    have hs26 := HBx25.size
    have HBx26 : Below w2.heap.size w2 x26 := HBx25.trans (hy26.mono hs26)
    have hx26 := (hy26.block _ (lt_of_heap hn25)).trans hn25
    have hne : v26.ownBlock ≠ some w2.heap.size := fun e => by have h1 := (ho26.at_base e).1; have h2 := lt_of_heap hn25; omega
    have hp26 := ho26.mono_ (base' := w2.heap.size) hs26
    refine hK.out _ _ ?_ (fun hHeld => ?_)
    · exact SH.out _ HBx26
    clear hK K
    try simp only [Act.put, lz]
    refine qr 6 rfl (by kernel_rfl) (fun K hK => ?_)
    · rw [if_pos (by rfl)]
      go_simp
      obtain ⟨x27, e27⟩ : ∃ x, x = x26.alloc (.cells #[.int .i64 first] 2) := ⟨_, rfl⟩
      rw [← e27]
      have HBx27 : Below w2.heap.size w2 x27 := by rw [e27]; exact HBx26.alloc HBx26.size _
      have hn27 : x27.heap[x26.heap.size]? = some (.cells #[.int .i64 first] 2 (0, 0)) := by rw [e27]; exact heap_alloc_new _ _
      have ho27 : OwnV x27 w2.heap.size 2 v26 (i64V g.segs) := by rw [e27]; exact hp26.alloc _
      have hx27 : x27.heap[w2.heap.size]? = some (.cells #[.slice none 0 0] 50 (0, 0)) := by rw [e27]; exact (heap_alloc_old _ _ (lt_of_heap hx26)).trans hx26
      clear e27
      refine hK.out _ _ ?_ (fun hHeld => ?_)
      · exact SH.out _ HBx27
      clear hK K
      try simp only [Act.put, lz]
      refine qr 7 rfl (by kernel_rfl) (fun K hK => ?_)
      · rw [if_pos (by rfl)]
        refine wp_append_ints (.tmp 13) (.tmp 15) 50 rfl w2.heap.size _ Tryz.underlying50 info_i64L v26 g.segs (by rfl) ho27 _ (some ⟨x26.heap.size, 0, none⟩) 1 1 [first] (by rfl) (row_lit1 hn27) rfl (fun h => by cases h) (by omega) HBx27.size ?_
        intro v28 x28 ho28 hg28 hw28
        have HBx28 : Below w2.heap.size w2 x28 := HBx27.grown hg28 HBx27.size (fun k hk => (ho27.at_base hk).1)
        have hx28 := (hg28.block _ (lt_of_heap hx27) (fun e => hne e.symm)).trans hx27
        have hne2 : v28.ownBlock ≠ some w2.heap.size := fun e => by rcases hw28 with h1 | h1; exact hne (h1.symm.trans e); have h2 := lt_of_heap hx27; rw [h1] at e; injection e with e; omega
        have hol : ∀ k, v28.ownBlock = some k → w2.heap.size ≤ k ∧ k < x28.heap.size := fun k hk => ho28.at_base hk
        obtain ⟨a2, c2, hv28, hr, _⟩ := OwnV.out_ ho28
        have hnil0 := OwnV.nil_own ho28
        rw [← HK.out.2.2.1] at hv28 hr
        subst hv28
        have hnil : a2 = none → N = 0 ∧ c2 = 0 := fun h => by subst h; exact hnil0 _ _ rfl
        have hbl : ∀ k o, a2 = some ⟨k, o, none⟩ → w2.heap.size ≤ k ∧ k < x28.heap.size := fun k o e => by subst e; exact hol k rfl
        have hbb : ∀ k o, a2 = some ⟨k, o, none⟩ → w2.heap.size ≤ k ∧ k < x28.heap.size ∧ k ≠ w2.heap.size := fun k o e => by have h1 := hbl k o e; refine ⟨h1.1, h1.2, fun h => ?_⟩; subst e; subst h; exact hne2 rfl
        clear ho28 hol hnil0
        refine hK.out _ _ ?_ (fun hHeld => ?_)
        · exact SH.out _ HBx28
        clear hK K
        try simp only [Act.put, lz]
        have cb : x28.cell? ⟨w2.heap.size, 0, none⟩ = some (.slice none 0 0) := (cell_of_row x28 w2.heap.size 0 _ _ _ hx28).trans rfl
        have zb : x28.frozen? ⟨w2.heap.size, 0, none⟩ = false := frozen_of_row x28 w2.heap.size 0 _ _ hx28
        refine qr 9 rfl (by kernel_rfl) (fun K hK => ?_)
        rw [if_pos (by rfl)]
        go_simp
        have SB := SegBox.store HBx28 hx28 hgb hr hbb hnil
        refine hK.out _ _ ?_ (fun hHeld => ?_)
        · exact SH.out _ SB.below
        clear hK K
        try simp only [Act.put, lz]
        refine wpAnyH_done (by kernel_rfl) ?_ _
        refine NoPanic.normal ?_
        go_wp2_with fail
        go_meet
        case rel => exact SB
  rw [if_pos (by rfl)]
  go_simp
  obtain ⟨x30, e30⟩ : ∃ x, x = x25.alloc (.cells #[.int .i64 first] 2) := ⟨_, rfl⟩
  rw [← e30]
  have HBx30 : Below w2.heap.size w2 x30 := by rw [e30]; exact HBx25.alloc HBx25.size _
  have hn30 : x30.heap[x25.heap.size]? = some (.cells #[.int .i64 first] 2 (0, 0)) := by rw [e30]; exact heap_alloc_new _ _
  have hx30 : x30.heap[w2.heap.size]? = some (.cells #[.slice none 0 0] 50 (0, 0)) := by rw [e30]; exact (heap_alloc_old _ _ (lt_of_heap hn25)).trans hn25
  clear e30
  refine hK.out _ _ ?_ (fun hHeld => ?_)
  · exact SH.out _ HBx30
  clear hK K
  try simp only [Act.put, lz]
  refine qr 4 rfl (by kernel_rfl) (fun K hK => ?_)
  · rw [if_pos (by rfl)]
    go_simp
    go_at_call 58
    refine (CL.out _ HBx30).mono ?_
    rintro e x31 ⟨v31, rfl, ho31, hy31⟩
    have hs31 := HBx30.size
    have HBx31 : Below w2.heap.size w2 x31 := HBx30.trans (hy31.mono hs31)
    have hl31 := (hy31.block _ (lt_of_heap hn30)).trans hn30
    have hx31 := (hy31.block _ (lt_of_heap hx30)).trans hx30
    have hne : v31.ownBlock ≠ some w2.heap.size := fun e => by have h1 := (ho31.at_base e).1; have h2 := lt_of_heap hx30; omega
    have hp31 := ho31.mono_ (base' := w2.heap.size) hs31
    refine hK.out _ _ ?_ (fun hHeld => ?_)
    · exact SH.out _ HBx31
    clear hK K
    try simp only [Act.put, lz]
    refine qr 7 rfl (by kernel_rfl) (fun K hK => ?_)
    · rw [if_pos (by rfl)]
      refine wp_append_ints (.tmp 13) (.tmp 15) 50 rfl w2.heap.size _ Tryz.underlying50 info_i64L v31 g.segs (by rfl) hp31 _ (some ⟨x25.heap.size, 0, none⟩) 1 1 [first] (by rfl) (row_lit1 hl31) rfl (fun h => by cases h) (by omega) HBx31.size ?_
      intro v32 x32 ho32 hg32 hw32
      have HBx32 : Below w2.heap.size w2 x32 := HBx31.grown hg32 HBx31.size (fun k hk => (hp31.at_base hk).1)
      have hx32 := (hg32.block _ (lt_of_heap hx31) (fun e => hne e.symm)).trans hx31
      have hne2 : v32.ownBlock ≠ some w2.heap.size := fun e => by rcases hw32 with h1 | h1; exact hne (h1.symm.trans e); have h2 := lt_of_heap hx31; rw [h1] at e; injection e with e; omega
      have hol : ∀ k, v32.ownBlock = some k → w2.heap.size ≤ k ∧ k < x32.heap.size := fun k hk => ho32.at_base hk
      obtain ⟨a2, c2, hv32, hr, _⟩ := OwnV.out_ ho32
      have hnil0 := OwnV.nil_own ho32
      rw [← HK.out.2.2.1] at hv32 hr
      subst hv32
      have hnil : a2 = none → N = 0 ∧ c2 = 0 := fun h => by subst h; exact hnil0 _ _ rfl
      have hbl : ∀ k o, a2 = some ⟨k, o, none⟩ → w2.heap.size ≤ k ∧ k < x32.heap.size := fun k o e => by subst e; exact hol k rfl
      have hbb : ∀ k o, a2 = some ⟨k, o, none⟩ → w2.heap.size ≤ k ∧ k < x32.heap.size ∧ k ≠ w2.heap.size := fun k o e => by have h1 := hbl k o e; refine ⟨h1.1, h1.2, fun h => ?_⟩; subst e; subst h; exact hne2 rfl
      clear ho32 hol hnil0
      refine hK.out _ _ ?_ (fun hHeld => ?_)
      · exact SH.out _ HBx32
      clear hK K
      try simp only [Act.put, lz]
      have cb : x32.cell? ⟨w2.heap.size, 0, none⟩ = some (.slice none 0 0) := (cell_of_row x32 w2.heap.size 0 _ _ _ hx32).trans rfl
      have zb : x32.frozen? ⟨w2.heap.size, 0, none⟩ = false := frozen_of_row x32 w2.heap.size 0 _ _ hx32
      refine qr 9 rfl (by kernel_rfl) (fun K hK => ?_)
      rw [if_pos (by rfl)]
      go_simp
      have SB := SegBox.store HBx32 hx32 hgb hr hbb hnil
      refine hK.out _ _ ?_ (fun hHeld => ?_)
      · exact SH.out _ SB.below
      clear hK K
      try simp only [Act.put, lz]
      refine wpAnyH_done (by kernel_rfl) ?_ _
      refine NoPanic.normal ?_
      go_wp2_with fail
      go_meet
      case rel => exact SB
 case rest =>
  obtain ⟨⟨gb, a2, c2, rfl, hgc, hrow, hfar, hge, hgl, hnil⟩, hbw⟩ := hcut
  obtain ⟨w4, hw4⟩ : ∃ w4, w4 = wc.alloc (.cells #[.func (.func 144) #[] #[.pointer (some ⟨w.heap.size, 0, none⟩), .pointer (some ⟨w1.heap.size, 0, none⟩)], .func (.func 145) #[] #[.pointer (some ⟨w.heap.size, 0, none⟩), .pointer (some ⟨w1.heap.size, 0, none⟩), .pointer (some ⟨w.heap.size + 1, 0, none⟩)],
   .func (.func 147) #[] #[.pointer (some ⟨w.heap.size, 0, none⟩), .pointer (some ⟨w1.heap.size, 0, none⟩)], .func (.func 148) #[] #[.pointer (some ⟨w.heap.size, 0, none⟩), .pointer (some ⟨gb, 0, none⟩)]] 62) := ⟨_, rfl⟩
  have hb4 : Below wc.heap.size wc w4 := by rw [hw4]; exact Qb.alloc Qn _
  have hz4 : w4.heap.size = wc.heap.size + 1 := by rw [hw4]; simp
  have hzc := hbw.size
  have hc4 : ∀ k, k < 4 → w4.cell? ⟨wc.heap.size, k, none⟩ = some (.func (.func (lyF k)) #[] (lyC w.heap.size w1.heap.size (w.heap.size + 1) gb k)) := by
   intro k hk
   rw [hw4]
   match k, hk with
   | 0, _ => exact (cell_of_row _ _ 0 _ _ _ (heap_alloc_new wc _)).trans rfl
   | 1, _ => exact (cell_of_row _ _ 1 _ _ _ (heap_alloc_new wc _)).trans rfl
   | 2, _ => exact (cell_of_row _ _ 2 _ _ _ (heap_alloc_new wc _)).trans rfl
   | 3, _ => exact (cell_of_row _ _ 3 _ _ _ (heap_alloc_new wc _)).trans rfl
  have B24 : Below w2.heap.size w2 w4 := hbw.trans (hb4.mono hzc)
  have hl4 := (B24.cell (p := ⟨w.heap.size, 0, none⟩) (by show w.heap.size < _; omega)).trans H2.out.2.2.1
  have hf4 := (B24.cell (p := ⟨w.heap.size + 1, 0, none⟩) (by show w.heap.size + 1 < _; omega)).trans H2.out.2.2.2.1
  have he4 := (B24.cell (p := ⟨w.heap.size + 2, 0, none⟩) (by show w.heap.size + 2 < _; omega)).trans H2.out.2.2.2.2.1
  have hq4 := (B24.frozen (p := ⟨w.heap.size + 2, 0, none⟩) (by show w.heap.size + 2 < _; omega)).trans H2.out.2.2.2.2.2.1
  have hn4 := (B24.cell (p := ⟨w1.heap.size, 0, none⟩) hw12).trans H2.out.2.2.2.2.2.2.1
  have hg4 := (hb4.cell (p := ⟨gb, 0, none⟩) hgl).trans hgc
  have hK4 := H2.out.2.2.2.2.2.2.2.on B24
  have nD : ∀ k, w.heap.size ≤ k → ¬ D k := fun k hk h => by have := hDlt _ h; omega
  have IT := lays_any hK4.dk hK4.at_.c0 hK4.own hl4 (nD _ Qn) wc.heap.size w1.heap.size (w.heap.size + 1) gb g first hn4 (nD _ (by omega)) hf4 (nD _ (by omega)) a2 N c2 hg4 (nD _ (by omega)) (hrow.on9 hb4) HK.out.2.2.1.symm (fun k o e => nD _ (by have := hfar k o e; omega)) (nD _ (by omega)) hc4
  have H4 := Qh (Qa B24 (Qa hz4 (Qa hl4 (Qa he4 (Qa hq4 (Qa hn4 (Qa hg4 (Qa hK4 (Qa (hrow.on9 hb4) hnil)))))))))
  have HF := Qh hfar
  have hgz : w.heap.size + 4 ≤ gb := by omega
  have hgl4 : gb < w4.heap.size := by omega
  have hw4z : w2.heap.size < w4.heap.size := by omega
  rw [hw4] at IT
  have IT := Qh IT
  clear B24 hz4 hl4 hf4 he4 hq4 hn4 hg4 hK4 hc4 hrow hfar hgc hb4 hbw hnil CL SH hge
  go_wp2_with fail
  refine IT.out.mono ?_
  rintro e w5 ⟨rfl, hmv⟩
  rw [← hw4] at hmv
  obtain ⟨D5, k5, b5, f5⟩ := hmv
  have hz5 := b5.size
  have nD4 : ∀ k, w.heap.size ≤ k → ¬ D k := fun k hk h => by have := hDlt _ h; omega
  have gD : ∀ k, w.heap.size ≤ k → k < w4.heap.size → ¬ D5 k := fun k h1 h2 h3 => by
   rcases f5 k h3 with h4 | h4
   · exact nD4 k h1 h4
   omega
  have l5 := (b5.cell (b := w.heap.size) (o := 0) (by omega) (nD4 _ Qn)).trans H4.out.2.2.1
  have e5 := (b5.cell (b := w.heap.size + 2) (o := 0) (by omega) (nD4 _ (by omega))).trans H4.out.2.2.2.1
  have z5 := (b5.frozen (b := w.heap.size + 2) (o := 0) (by omega) (nD4 _ (by omega))).trans H4.out.2.2.2.2.1
  have n5 := (b5.cell (b := w1.heap.size) (o := 0) (by omega) (nD4 _ (by omega))).trans H4.out.2.2.2.2.2.1
  have g5 := (b5.cell (b := gb) (o := 0) hgl4 (nD4 _ (by omega))).trans H4.out.2.2.2.2.2.2.1
  have q5 : w.heap.size + 2 = w.heap.size + 1 + 1 := rfl
  rw [q5] at e5 z5
  have hfarO := H4.out.2.2.2.2.2.2.2.1.far
  have hL5 : LogC w5 lp dp size g sa sc := H4.out.2.2.2.2.2.2.2.1.at_.but b5 H4.out.2.2.2.2.2.2.2.1.own (fun k o e => (hfarO k o e).1)
  have lc2 := hL5.c2
  have lz2 := hL5.z 2
  have bw5 : But (lO D lp sa) w w5 := (But.of_below (H2.out.1.trans (H4.out.1.mono H2.out.1.size))).trans (b5.more (O' := lO D lp sa) (fun k h => .inl h)) (fun k h => .inl h)
  have H5 := Qh (Qa k5 (Qa b5 (Qa f5 (Qa n5 (Qa hL5 (Qa hfarO (Qa bw5 (Qa l5 HF.out))))))))
  have GD := Qh gD
  clear k5 b5 f5 IT n5 hL5 hfarO gD nD4 q5 HF bw5
  have HR : Hid (lgLay g t first = if (lgTry g t first).1 = 0 then (0, (lgTry g t first).2, { g with segs := g.segs ++ [first] }) else if (lgTry g t first).1 = 42 then (42, (lgTry g t first).2, g) else ((lgTry g t first).1, ((lgTry g t first).2.delete (nm first)).2, g)) := rfl
  have hww := HK.out.1.dk.below.size
  have hbase := HK.out.1.base
  have hsh : shortS (nm first) := by have := nm_short first; unfold shortS; omega
  generalize lgTry g t first = r at *
  obtain ⟨x, t'⟩ := r
  have HU := Qh (Qa hww (Qa hbase hsh))
  clear hww hbase hsh
  by_cases hx : x = 0
  · subst hx
    have hne : w.heap.size + 1 + 1 ≠ lp := by omega
    have hne2 : w.heap.size + 1 + 1 ≠ gb := by omega
    have hne3 : w.heap.size + 1 + 1 ≠ w.heap.size := by omega
    go_wp2_with fail
    obtain ⟨w6, hw6⟩ : ∃ w6, w6 = ((w5.setCell ⟨w.heap.size + 1 + 1, 0, none⟩ (.int .i64 0)).setCell ⟨lp, 2, none⟩ (.slice a2 N c2)).setCell ⟨w.heap.size + 1 + 1, 0, none⟩ (.int .i64 0) := ⟨_, rfl⟩
    have b65 : But (fun k => k = w.heap.size + 1 + 1 ∨ k = lp) w5 w6 := by
     rw [hw6]
     exact (((But.refl _ w5).setCell (p := ⟨w.heap.size + 1 + 1, 0, none⟩) (.inl (.inl rfl)) _).setCell (p := ⟨lp, 2, none⟩) (.inl (.inr rfl)) _).setCell (p := ⟨w.heap.size + 1 + 1, 0, none⟩) (.inl (.inl rfl)) _
    have e6 : w6.cell? ⟨w.heap.size + 1 + 1, 0, none⟩ = some (.int .i64 0) := by rw [hw6]; exact World.cell?_setCell_same _ _ _ (cell_set_far (World.cell?_setCell_same _ _ _ e5) (by show w.heap.size + 1 + 1 ≠ lp; omega))
    have blk6 : w6.heap[lp]? = some (.cells #[.pointer (some ⟨dp, 0, none⟩), .int .i64 (size : Int), .slice a2 (g.segs ++ [first]).length c2, .int .i64 g.next] 77 (0, 0)) := by
     rw [hw6, ← HK.out.2.2.1]
     refine (Below.heap_setCell _ ⟨w.heap.size + 1 + 1, 0, none⟩ _ lp (fun h => hne h.symm)).trans ?_
     have h1 := (Below.heap_setCell w5 ⟨w.heap.size + 1 + 1, 0, none⟩ (.int .i64 0) lp (fun h => hne h.symm)).trans H5.out.2.2.2.2.1.blk
     exact heap_setCell_same _ lp 2 _ _ (.slice a2 N c2) h1
    have rw6 : w5.heap.size ≤ w6.heap.size := b65.size
    have row6 : Row w6 w6.heap.size a2 (g.segs ++ [first]).length c2 1 (intsC (g.segs ++ [first])) := by
     rw [← HK.out.2.2.1]
     have h1 := H4.out.2.2.2.2.2.2.2.2.1.but H5.out.2.1 (fun _ k o e => by have h2 := H5.out.2.2.2.2.2.2.2.2 k o e; exact fun h3 => by have := hDlt _ h3; omega)
     exact h1.but b65 (fun _ k o e => by have h2 := H5.out.2.2.2.2.2.2.2.2 k o e; omega)
    have k6 : DK w0 w6 dp t' D5 := H5.out.1.out_ b65 (fun k hk => by
     rcases hk with rfl | rfl
     · exact ⟨GD.out _ (by omega) (by omega), by have := HU.out.1; omega⟩
     exact ⟨fun h3 => by rcases H5.out.2.2.1 _ h3 with h4 | h4; exact HK.out.1.own h4; omega, HU.out.2.1⟩)
    have K6 : LK w0 w6 dp lp size { g with segs := g.segs ++ [first] } t' D5 a2 c2 := by
     refine ⟨k6, ⟨blk6, row6, fun h => by have := H4.out.2.2.2.2.2.2.2.2.2 h; rw [HK.out.2.2.1] at this; exact this⟩, HU.out.2.1, fun h3 => by rcases H5.out.2.2.1 _ h3 with h4 | h4; exact HK.out.1.own h4; omega, fun k o e => ?_⟩
     have h2 := H5.out.2.2.2.2.2.2.2.2 k o e
     have h3 := H4.out.2.1
     have h4 := W2.out.2
     exact ⟨GD.out _ (by omega) (by omega), by omega, by have := HU.out.1; omega, by omega⟩
    have l6 := (b65.cell (b := w.heap.size) (o := 0) (by omega) (fun h => by rcases h with h | h <;> omega)).trans H5.out.2.2.2.2.2.2.2.1
    have n6 := (b65.cell (b := w1.heap.size) (o := 0) (by omega) (fun h => by rcases h with h | h <;> omega)).trans H5.out.2.2.2.1
    rw [← hw6]
    refine leaves_cons (f := 143) (args := #[.pointer (some ⟨w.heap.size + 1 + 1, 0, none⟩), .pointer (some ⟨w.heap.size, 0, none⟩), .pointer (some ⟨w1.heap.size, 0, none⟩)]) (by simp) (by simp [go_sem]) ?_
    refine (lay1_any k6 K6.at_.c0 K6.own l6 (GD.out _ Qn (by omega)) (w.heap.size + 1 + 1) w1.heap.size (nm first) n6 (GD.out _ (by omega) (by omega)) HU.out.2.2 0 .returning e6).mono ?_
    rintro e u' w7 ⟨rfl, rfl, hmv⟩
    have e7 : w7.cell? ⟨w.heap.size + 1 + 1, 0, none⟩ = some (.int .i64 0) := by
     obtain ⟨D7, _, b7, _⟩ := hmv
     exact (b7.cell (b := w.heap.size + 1 + 1) (o := 0) (by omega) (GD.out _ (by omega) (by omega))).trans e6
    refine ⟨_, (by simp [results, Tryz.results84, go_sem, e7]; rfl), ?_⟩
    have hres : lgLay g t first = (0, t', { g with segs := g.segs ++ [first] }) := HR.out.trans (if_pos (by trivial))
    rw [hres]
    refine ⟨rfl, ?_⟩
    rw [show lyClean (nm first) 0 t' = t' from if_neg (by simp)] at hmv
    refine LMv.then (H5.out.2.2.2.2.2.2.1.trans b65 (fun k hk => ?_)) (fun k hk => ?_) (K6.mv hmv)
    · rcases hk with rfl | rfl
      · right; omega
      exact .inl (.inr (.inl rfl))
    rcases hk with h3 | h3 | ⟨o, h3⟩
    · rcases H5.out.2.2.1 _ h3 with h4 | h4
      · exact .inl (.inl h4)
      right; omega
    · exact .inl (.inr (.inl h3))
    have := H5.out.2.2.2.2.2.2.2.2 k o h3; right; omega
  have hx' : (x == 0) = false := by simpa using hx
  go_wp2_with fail
  obtain ⟨w6, hw6⟩ : ∃ w6, w6 = (w5.setCell ⟨w.heap.size + 1 + 1, 0, none⟩ (.int .i64 x)).setCell ⟨w.heap.size + 1 + 1, 0, none⟩ (.int .i64 x) := ⟨_, rfl⟩
  have b65 : But (fun k => k = w.heap.size + 1 + 1) w5 w6 := by
   rw [hw6]
   exact ((But.refl (fun k => k = w.heap.size + 1 + 1) w5).setCell (p := ⟨w.heap.size + 1 + 1, 0, none⟩) (.inl rfl) _).setCell (p := ⟨w.heap.size + 1 + 1, 0, none⟩) (.inl rfl) _
  have e6 : w6.cell? ⟨w.heap.size + 1 + 1, 0, none⟩ = some (.int .i64 x) := by rw [hw6]; exact World.cell?_setCell_same _ _ _ (World.cell?_setCell_same _ _ _ e5)
  have rw6 : w5.heap.size ≤ w6.heap.size := b65.size
  have k6 : DK w0 w6 dp t' D5 := H5.out.1.out_ b65 (fun k hk => by
   subst hk
   exact ⟨GD.out _ (by omega) (by omega), by have := HU.out.1; omega⟩)
  have K6 : LK w0 w6 dp lp size g t' D5 sa sc := by
   refine ⟨k6, H5.out.2.2.2.2.1.but b65 (by omega) (fun k o e h => by have h2 := HK.out.1.far k o e; omega), HU.out.2.1, fun h3 => by rcases H5.out.2.2.1 _ h3 with h4 | h4; exact HK.out.1.own h4; omega, fun k o e => ?_⟩
   have h2 := HK.out.1.far k o e
   exact ⟨fun h3 => by rcases H5.out.2.2.1 _ h3 with h4 | h4; exact h2.1 h4; omega, h2.2.1, h2.2.2.1, by omega⟩
  have l6 := (b65.cell (b := w.heap.size) (o := 0) (by omega) (fun h => by omega)).trans H5.out.2.2.2.2.2.2.2.1
  have n6 := (b65.cell (b := w1.heap.size) (o := 0) (by omega) (fun h => by omega)).trans H5.out.2.2.2.1
  rw [← hw6]
  refine leaves_cons (f := 143) (args := #[.pointer (some ⟨w.heap.size + 1 + 1, 0, none⟩), .pointer (some ⟨w.heap.size, 0, none⟩), .pointer (some ⟨w1.heap.size, 0, none⟩)]) (by simp) (by simp [go_sem]) ?_
  refine (lay1_any k6 K6.at_.c0 K6.own l6 (GD.out _ Qn (by omega)) (w.heap.size + 1 + 1) w1.heap.size (nm first) n6 (GD.out _ (by omega) (by omega)) HU.out.2.2 x .returning e6).mono ?_
  rintro e u' w7 ⟨rfl, rfl, hmv⟩
  have e7 : w7.cell? ⟨w.heap.size + 1 + 1, 0, none⟩ = some (.int .i64 x) := by
   obtain ⟨D7, _, b7, _⟩ := hmv
   exact (b7.cell (b := w.heap.size + 1 + 1) (o := 0) (by omega) (GD.out _ (by omega) (by omega))).trans e6
  refine ⟨_, (by simp [results, Tryz.results84, go_sem, e7]; rfl), ?_⟩
  have hres : lgLay g t first = (x, lyClean (nm first) x t', g) := by
   rw [HR.out, if_neg hx]
   by_cases h42 : x = 42
   · subst h42
     rw [if_pos rfl, show lyClean (nm first) 42 t' = t' from if_neg (by simp)]
   rw [if_neg h42, show lyClean (nm first) x t' = (t'.delete (nm first)).2 from if_pos ⟨hx, h42⟩]
  rw [hres]
  refine ⟨rfl, ?_⟩
  refine LMv.then (H5.out.2.2.2.2.2.2.1.trans b65 (fun k hk => ?_)) (fun k hk => ?_) (K6.mv hmv)
  · subst hk; right; omega
  rcases hk with h3 | h3
  · rcases H5.out.2.2.1 _ h3 with h4 | h4
    · exact .inl (.inl h4)
    right; omega
  exact .inl (.inr h3)
end
end
end Go.Proofs.YtamblmoedommfaaGreatDoor

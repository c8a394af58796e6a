/- The reference's disk: List. The reference's disk that lies behind a world w0 (as DK of t. Two disks in one state are alike: governorlaw06. The reference's disk: mathematics of Crash. Both disks, side by side, in one state. Plain mathematics of the CRC-32, over natural numbers: no pr. Frames: plain mathematics: bytes of numbers, bytes of frames. Contracts of the program's sum: down. Contracts of the program's manifest: Right, size, read, writ. -/
import Derived.Test.YtamblmoedommfaaGreatDoorSqa
import Derived.Test.YtamblmoedommfaaGreatDoorSqb
import Derived.Test.YtamblmoedommfaaGreatDoorSqc
import Derived.Deep.CutRange
import Derived.Deep.RegionHeld
import Derived.Below
import Derived.IntWalk
import Derived.Test.YtamblmoedommfaaGreatDoorProg
import Derived.Test.YtamblmoedommfaaGreatDoorChecked
import Derived.WalkKit
import Derived.WalkLawsBesides
import Derived.Laws.BitsAllLaws
import Derived.Lib.Hide
import Derived.Outline
namespace Go.Proofs.YtamblmoedommfaaGreatDoor
set_option maxRecDepth 100000
set_option maxHeartbeats 40000000
set_option linter.unusedVariables false
set_option linter.unusedSimpArgs false
set_option linter.unusedSectionVars false
section
open Go.RowKit Go.Sort
open Go.Maps
attribute [local go_sem] Oper.semAt_some
section
variable {w : World} {rp : Nat} {t : St} {O : Nat → Prop} {a : Option Addr} {c : Nat} {es : List REnt}
abbrev namesV (es : List REnt) : List Value := es.map fun e => .string ⟨e.s.toArray⟩
theorem names_row {w : World} {base : Nat} {v : Value} {es : List REnt} (h : OwnV w base 9 v (namesV es)) : ∃ a c, v = .slice a es.length c ∧ Row w w.heap.size a es.length c 1 (strC (es.map (·.s))) := by
 have hl : (namesV es).length = es.length := List.length_map _
 rcases h.2 with ⟨h1, h2⟩ | ⟨g, cap, cur, h1, h2, h3, h4, h5, h6⟩
 · subst h1
   have hn : es.length = 0 := by rw [← hl]; exact h2
   rw [hn]
   exact ⟨none, 0, rfl, ⟨Nat.le_refl _, by simp [maxLen], fun hp => absurd hp (by omega)⟩⟩
 subst h1
 rw [hl] at h4
 refine ⟨_, cap, by rw [hl], ⟨h4, h5, fun _ => ⟨g, 0, rfl, lt_of_heap h3, fun j hj => ?_⟩⟩⟩
 have hj' : j < es.length := by omega
 rw [Nat.zero_add, (OwnV.cell h (k := j) (u := .string ⟨es[j].s.toArray⟩) (by rw [List.getElem?_map, List.getElem?_eq_getElem hj']; rfl)).1]
 simp only [strC, List.getD_eq_getElem?_getD, List.getElem?_map, List.getElem?_eq_getElem hj']
 rfl
theorem rlist_anyB (h : RdC w rp t O a c es) : Calls Tryz.prog 49 #[.pointer (some ⟨rp, 0, none⟩)] w fun e w' => ∃ a' c', e = .returned (.slice a' es.length c') ∧ Row w' w'.heap.size a' es.length c' 1 (strC (es.map (·.s))) ∧ Below w.heap.size w w' ∧ ∀ k o, a' = some ⟨k, o, none⟩ → w.heap.size ≤ k := by
 have c1 := h.cell.2.1
 have hcap := h.len_
 have hrl := h.lt rp h.rpO
 have HH := Qh h
 clear h
 obtain ⟨i0, hi, hz0, hz1, hz2⟩ := info_parts info_str
 obtain ⟨n, hn⟩ : ∃ n, n = es.length := ⟨_, rfl⟩
 rw [← hn] at c1 hcap
 have HN := Qh hn
 have C1 := Qh c1
 clear hn c1
 go_enter Tryz.func49, Tryz.ntmps49
 go_wp2_with fail
 go_loopw [3, 4] (fun v i wr => ∃ k : Nat, k ≤ n ∧ i = .int .i64 (k : Int) ∧ OwnV wr w.heap.size 9 v (namesV (es.take k)) ∧ Below w.heap.size w wr) (fun _ i _ => n - (intOf i).toNat)
 case atStart => exact ⟨0, Nat.zero_le _, rfl, OwnV.nil_ _ _ _, Below.refl _ _⟩
 case round =>
  obtain ⟨k, hk, rfl, ho, hb⟩ := hrel
  have k1 := (hb.cell (p := ⟨rp, 1, none⟩) hrl).trans C1.out
  by_cases hlt : k < n
  · obtain ⟨g, hg, _, _, hgl, _, _, hc⟩ := HH.out.at_ (by have := HN.out; omega)
    subst hg
    have hke : k < es.length := by have := HN.out; omega
    have q0 := (hb.cell (p := ⟨g, k * 3, none⟩) hgl).trans (hc k es[k] (List.getElem?_eq_getElem hke)).1
    have hst : namesV (es.take (k + 1)) = namesV (es.take k) ++ [.string ⟨es[k].s.toArray⟩] := by
     rw [List.take_succ_eq_append_getElem hke]
     show List.map _ (_ ++ _) = _
     rw [List.map_append]
     rfl
    have hlen : (namesV (es.take k)).length ≤ 64 := by simp; omega
    obtain ⟨e0, he0⟩ : ∃ e0, e0 = es[k] := ⟨_, rfl⟩
    rw [← he0] at q0 hst
    have Hst := Qh hst
    have HB := Qh (Qa hb ho)
    obtain ⟨xs, hxs⟩ : ∃ xs, xs = namesV (es.take k) := ⟨_, rfl⟩
    rw [← hxs] at HB hlen Hst
    have ho' : OwnV wr w.heap.size 9 _ xs := HB.out.2
    clear hc he0 hke hst ho hb hxs hgl
    go_wp2_with (first
     | (at_builtin; go_loud (refine wpList_append_own _ rfl _ _ 63 rfl w.heap.size 9 i0 (.string ⟨#[]⟩) 1 16 Tryz.underlying63 hi hz0 hz1 hz2 rfl (by decide) _ xs.length xs rfl (OwnV.alloc ho' _) ⟨wr.heap.size, 0, none⟩ 1 1 [.string ⟨e0.s.toArray⟩] rfl rfl (cell_one_new _ _ _) (by simp [Value.oneCell']) (by unfold maxLen; omega) (by omega) (by have := HB.out.1.size; simp; omega) ?_); intro v5 w5 ho5 hg5 _; have hB5 : Below w.heap.size w w5 := (HB.out.1.alloc HB.out.1.size _).grown hg5 (by have := HB.out.1.size; simp; omega) (fun q hq => (ho'.at_base hq).1); have H5 := Qh (Qa (show OwnV w5 w.heap.size 9 v5 (xs ++ [.string ⟨e0.s.toArray⟩]) by unfold OwnV; rw [List.length_append]; exact ho5) hB5); clear ho5 hB5 hg5)
     | fail)
    go_roundw
    case rel => exact ⟨k + 1, by omega, by go_num, by rw [Hst.out]; exact H5.out.1, H5.out.2⟩
    case measure => simp [intOf]; omega
  rw [List.take_of_length_le (by have := HN.out; omega)] at ho
  obtain ⟨a9, c9, rfl, hr⟩ := names_row ho
  have hbs : ∀ k o, a9 = some ⟨k, o, none⟩ → w.heap.size ≤ k := fun k o e => by subst e; exact (ho.at_base rfl).1
  have HR := Qh (Qa hr (Qa hb hbs))
  clear ho hr hb hbs
  go_wp2
  go_ret
  exact ⟨a9, c9, rfl, HR.out.1, HR.out.2.1, HR.out.2.2⟩
theorem rlist_any (h : RdC w rp t O a c es) : Calls Tryz.prog 49 #[.pointer (some ⟨rp, 0, none⟩)] w fun e w' => ∃ a' c', e = .returned (.slice a' es.length c') ∧ Row w' w'.heap.size a' es.length c' 1 (strC (es.map (·.s))) ∧ Below w.heap.size w w' :=
 (rlist_anyB h).mono fun _ _ ⟨a', c', h1, h2, h3, _⟩ => ⟨a', c', h1, h2, h3⟩
end
end
section
open Go.RowKit
open Go.Maps
structure RK (w0 w : World) (rp : Nat) (t : St) (O : Nat → Prop) : Prop where
 is : Rd w rp t O
 base : ∀ k, O k → w0.heap.size ≤ k
 below : Below w0.heap.size w0 w
theorem RK.on {w0 w w' : World} {rp : Nat} {t : St} {O : Nat → Prop} (h : RK w0 w rp t O) (hb : Below w.heap.size w w') : RK w0 w' rp t O := ⟨h.is.below hb, h.base, h.below.trans (hb.mono h.below.size)⟩
theorem RK.lt {w0 w : World} {rp : Nat} {t : St} {O : Nat → Prop} (h : RK w0 w rp t O) : ∀ k, O k → k < w.heap.size := h.is.lt
theorem RK.good {w0 w : World} {rp : Nat} {t : St} {O : Nat → Prop} (h : RK w0 w rp t O) : Good t.D t.room := h.is.good
def Mr (w0 w : World) (rp : Nat) (O : Nat → Prop) (t : St) (w' : World) : Prop := ∃ O', RK w0 w' rp t O' ∧ But O w w' ∧ ∀ k, O' k → O k ∨ w.heap.size ≤ k
section
variable {w0 w : World} {rp : Nat} {t : St} {O : Nat → Prop}
theorem RK.mv (h : RK w0 w rp t O) {t' : St} {w' : World} (hm : RMv w rp O t' w') : Mr w0 w rp O t' w' := by
 obtain ⟨O', h1, h2, h3⟩ := hm
 exact ⟨O', ⟨h1, fun k hk => by rcases h3 k hk with h4 | h4; exact h.base k h4; exact Nat.le_trans h.below.size h4, h.below.trans (h2.below h.below.size h.base)⟩, h2, h3⟩
theorem Mr.far {t' : St} {w' : World} (h : Mr w0 w rp O t' w') : ∃ O', RK w0 w' rp t' O' ∧ But O w w' ∧ ∀ k, k < w.heap.size → ¬ O k → ¬ O' k := by
 obtain ⟨O', h1, h2, h3⟩ := h
 exact ⟨O', h1, h2, fun k hk hn ho => by rcases h3 k ho with h4 | h4; exact hn h4; omega⟩
theorem RK.but (h : RK w0 w rp t O) {P : Nat → Prop} {w' : World} (hb : But P w w') (hno : ∀ k, O k → ¬ P k) (hP : ∀ k, P k → w0.heap.size ≤ k) : RK w0 w' rp t O :=
 ⟨h.is.but hb hno, h.base, h.below.trans (hb.below h.below.size hP)⟩
theorem RK.new (room : Nat) (hr : room ≤ 1048576) (w : World) : Calls Tryz.prog 7 #[.int .i64 (room : Int)] w fun e w' => ∃ rp O, e = .returned (.pointer (some ⟨rp, 0, none⟩)) ∧ RK w w' rp ⟨.map [], room, -1, 0⟩ O ∧ Below w.heap.size w w' ∧ ∀ k, O k → w.heap.size ≤ k :=
 (rnew_yes room hr w).mono fun e w' ⟨h1, h2, h3⟩ => ⟨_, _, h1, ⟨h3, fun k hk => by subst hk; exact Nat.le_refl _, h2⟩, h2, fun k hk => by subst hk; exact Nat.le_refl _⟩
theorem RK.write (h : RK w0 w rp t O) (s : ByteArray) (hs : s.size ≤ maxLen) (a : Option Addr) (n c : Nat) (b : List Nat) (hsl : Sl w w.heap.size a n c b) (hn : n ≤ 140737488351232) (hfar : 0 < n → ∀ k o, a = some ⟨k, o, none⟩ → ¬ O k) :
 Calls Tryz.prog 66 #[.pointer (some ⟨rp, 0, none⟩), .string s, .slice a n c] w fun e w' => e = .returned (.int .i64 (t.write s.data.toList b).1) ∧ Mr w0 w rp O (t.write s.data.toList b).2 w' :=
 (rwrite_any h.is s hs a n c b hsl hn hfar).mono fun _ _ hT => ⟨hT.1, h.mv hT.2⟩
theorem RK.sync (h : RK w0 w rp t O) (s : ByteArray) :
 Calls Tryz.prog 63 #[.pointer (some ⟨rp, 0, none⟩), .string s] w fun e w' => e = .returned (.int .i64 (t.sync s.data.toList).1) ∧ Mr w0 w rp O (t.sync s.data.toList).2 w' := by
 obtain ⟨a, c, es, h1⟩ := h.is
 exact (rsync_any h1 s).mono fun _ _ hT => ⟨hT.1, h.mv hT.2⟩
theorem RK.delete (h : RK w0 w rp t O) (s : ByteArray) :
 Calls Tryz.prog 65 #[.pointer (some ⟨rp, 0, none⟩), .string s] w fun e w' => e = .returned (.int .i64 (t.delete s.data.toList).1) ∧ Mr w0 w rp O (t.delete s.data.toList).2 w' := by
 obtain ⟨a, c, es, h1⟩ := h.is
 exact (rdelete_any h1 s).mono fun _ _ hT => ⟨hT.1, h.mv hT.2⟩
theorem RK.rename (h : RK w0 w rp t O) (s tn : ByteArray) (ht : tn.size ≤ maxLen) :
 Calls Tryz.prog 64 #[.pointer (some ⟨rp, 0, none⟩), .string s, .string tn] w fun e w' => e = .returned (.int .i64 (t.rename s.data.toList tn.data.toList).1) ∧ Mr w0 w rp O (t.rename s.data.toList tn.data.toList).2 w' :=
 (rrename_any h.is s tn ht).mono fun _ _ hT => ⟨hT.1, h.mv hT.2⟩
theorem RK.fuse (h : RK w0 w rp t O) (n : Int) (hn : n ≤ 9223372036854775807) : Calls Tryz.prog 45 #[.pointer (some ⟨rp, 0, none⟩), .int .i64 n] w fun e w' => e = .returned (.tuple #[]) ∧ Mr w0 w rp O (t.fuse_ n) w' := by
 obtain ⟨a, c, es, h1⟩ := h.is
 exact (rfuse_any h1 n hn).mono fun _ _ hT => ⟨hT.1, h.mv ⟨O, ⟨a, c, es, hT.2.1⟩, hT.2.2, fun _ hk => .inl hk⟩⟩
theorem RK.fail (h : RK w0 w rp t O) (n : Int) (hn : n ≤ 9223372036854775807) : Calls Tryz.prog 46 #[.pointer (some ⟨rp, 0, none⟩), .int .i64 n] w fun e w' => e = .returned (.tuple #[]) ∧ Mr w0 w rp O (t.fail_ n) w' := by
 obtain ⟨a, c, es, h1⟩ := h.is
 exact (rfail_any h1 n hn).mono fun _ _ hT => ⟨hT.1, h.mv ⟨O, ⟨a, c, es, hT.2.1⟩, hT.2.2, fun _ hk => .inl hk⟩⟩
theorem RK.read (h : RK w0 w rp t O) (s : ByteArray) : Calls Tryz.prog 51 #[.pointer (some ⟨rp, 0, none⟩), .string s] w (NewBytes w ((fat t.D s.data.toList).getD Fl.zero).bs (fat t.D s.data.toList).isSome) := by
 obtain ⟨a, c, es, h1⟩ := h.is
 exact rread1_any h1 s
theorem RK.synced (h : RK w0 w rp t O) (s : ByteArray) : Calls Tryz.prog 53 #[.pointer (some ⟨rp, 0, none⟩), .string s] w fun e w' => e = .returned (.int .i64 (((fat t.D s.data.toList).getD Fl.zero).l : Int)) ∧ w = w' := by
 obtain ⟨a, c, es, h1⟩ := h.is
 exact rsynced_any h1 s
theorem RK.list (h : RK w0 w rp t O) : Calls Tryz.prog 49 #[.pointer (some ⟨rp, 0, none⟩)] w fun e w' => ∃ a' c', e = .returned (.slice a' (strKeys t.D).length c') ∧ Row w' w'.heap.size a' (strKeys t.D).length c' 1 (strC (strKeys t.D)) ∧ Below w.heap.size w w' := by
 obtain ⟨a, c, es, h1⟩ := h.is
 have hk : strKeys t.D = es.map (·.s) := by rw [h1.D_]; exact rD_names es
 refine (rlist_any h1).mono fun e w' ⟨a', c', he, hr, hb⟩ => ⟨a', c', ?_, ?_, hb⟩
 · rw [hk, List.length_map]; exact he
 rw [hk, List.length_map]; exact hr
end
end
section
open Go.RowKit Go.Sort
open Go.Maps
attribute [local go_sem] Oper.semAt_some
theorem bel2_ {w0 w w' : World} (h : Below w0.heap.size w0 w) (k : Below w.heap.size w w') : Below w0.heap.size w0 w' := h.trans (k.mono h.size)
theorem alike_any {w0 w : World} {dp rp : Nat} {t : St} {O P : Nat → Prop} (hd : DK w0 w dp t O) (hr : RK w0 w rp t P) :
 Calls Tryz.prog 13 #[.pointer (some ⟨dp, 0, none⟩), .pointer (some ⟨rp, 0, none⟩)] w fun e w' => e = .returned (.bool true) ∧ Below w.heap.size w w' := by
 have L1 := Qh hd.list
 have LL2 := Qh (fun x (hx : Below w.heap.size w x) => (hr.on hx).list)
 have SS := Qh (sameStr_any (strKeys t.D))
 have NM := Qh (fun s (hs : s ∈ strKeys t.D) => show s.length ≤ 16 by
  obtain ⟨f9, hf9⟩ := Option.isSome_iff_exists.1 ((names_mem hd.good s).1 hs)
  have := (hd.good.at_ hf9).1
  unfold nmOk at this
  simp at this
  omega)
 have FB := Qh (fun s => fat_byte hd.good s)
 have HD := Qh hd
 have HR := Qh hr
 clear hd hr
 obtain ⟨L, hL⟩ : ∃ L, L = strKeys t.D := ⟨_, rfl⟩
 rw [← hL] at L1 LL2 SS NM
 clear hL
 obtain ⟨n, hn⟩ : ∃ n, n = L.length := ⟨_, rfl⟩
 have HN := Qh hn
 go_enter Tryz.func13, Tryz.ntmps13
 go_wp2_with fail
 refine L1.out.mono ?_
 rintro e w1 hN
 obtain ⟨g, gc, rfl, hrow, _, hb1⟩ := NewNames.out hN
 have R1 := Qh hrow
 have B1 := Qh hb1
 clear hN L1 hrow hb1
 have L2 := Qh (LL2.out w1 B1.out)
 rw [← hn] at L2 SS R1 ⊢
 clear LL2 hn
 go_wp2_with fail
 refine L2.out.mono ?_
 rintro e w2 ⟨ha, hc, rfl, ry, hb2⟩
 have B2 := Qh (bel2_ B1.out hb2)
 have RX := Qh ((R1.out.below hb2 Qn).more hb2.size)
 have S1 := Qh (SS.out (some ⟨g, 0, none⟩) ha gc hc w2 RX.out ry)
 clear L2 ry hb2 B1 R1 SS
 go_wp2_with fail
 refine S1.out.mono ?_
 rintro e w3 ⟨rfl, hb3⟩
 have B3 := Qh (bel2_ B2.out hb3)
 have R3 := Qh ((RX.out.below hb3 Qn).more hb3.size)
 have HLT := Qh (fun (h : 0 < n) => show g < w3.heap.size by obtain ⟨b, o, e, hb, _⟩ := R3.out.at_ h; injection e with e; injection e with e1 e2; omega)
 have hmx := R3.out.max
 have hle := R3.out.le
 unfold maxLen at hmx
 clear S1 hb3 B2 RX
 go_wp2_with fail
 go_loopw [6] (fun i wx => ∃ k : Nat, k ≤ n ∧ i = .int .i64 (k : Int) ∧ Below w3.heap.size w3 wx) (fun i _ => n - (intOf i).toNat)
 case atStart => exact ⟨0, Nat.zero_le _, rfl, Below.refl _ _⟩
 case round =>
  obtain ⟨k, hk, rfl, hx⟩ := hrel
  by_cases hlt : k < n
  · have hlt' : (k : Int) < (n : Int) := by omega
    have hk0 : (0 : Int) ≤ (k : Int) := by omega
    have HK := Qh hlt
    have HX := Qh (bel2_ B3.out hx)
    have HXX := Qh hx
    obtain ⟨s, hs⟩ : ∃ s, L[k]? = some s := ⟨_, List.getElem?_eq_getElem (by rw [← HN.out]; exact hlt)⟩
    have hgl := HLT.out (by omega)
    have n3 : w3.cell? ⟨g, k, none⟩ = some (.string ⟨s.toArray⟩) := by
     obtain ⟨b, o, e, hb, hcn⟩ := R3.out.at_ (show 0 < n by omega)
     injection e with e
     injection e with e1 e2
     subst e1 e2
     have := hcn k (by omega)
     rw [Nat.zero_add] at this
     rw [this]
     simp only [strC, List.getD_eq_getElem?_getD, hs]
     rfl
    have nr := (hx.cell (p := ⟨g, k, none⟩) hgl).trans n3
    have hsz := NM.out s (List.mem_of_getElem? hs)
    have hss : (⟨s.toArray⟩ : ByteArray).size ≤ maxLen := by show s.toArray.size ≤ _; unfold maxLen; simp; omega
    have KR := Qh (HD.out.on HX.out)
    have KR2 := Qh (fun x (hx : Below wr.heap.size wr x) => HR.out.on (bel2_ HX.out hx))
    have RD := Qh (KR.out.read ⟨s.toArray⟩ hss)
    have RD2 := Qh (fun x (hx : Below wr.heap.size wr x) => (KR2.out x hx).read ⟨s.toArray⟩)
    have SY := Qh (fun x (hx : Below wr.heap.size wr x) => (KR.out.on hx).synced ⟨s.toArray⟩ hss)
    have SY2 := Qh (fun x (hx : Below wr.heap.size wr x) => (KR2.out x hx).synced ⟨s.toArray⟩)
    have HF := Qh (FB.out (⟨s.toArray⟩ : ByteArray).data.toList)
    have NR := Qh (Qa nr (Nat.lt_of_lt_of_le hgl hx.size))
    clear hs n3 hx hgl hsz hss hk hlt
    generalize (fat t.D (⟨s.toArray⟩ : ByteArray).data.toList).isSome = is at *
    generalize (fat t.D (⟨s.toArray⟩ : ByteArray).data.toList).getD Fl.zero = fl at *
    obtain ⟨bl, hbl⟩ : ∃ bl, bl = fl.bs.length := ⟨_, rfl⟩
    go_wp2_with fail
    refine RD.out.mono ?_
    rintro e wa hN
    obtain ⟨xa, xc, rfl, hxs, _, hba⟩ := NewBytes.out KR.out hN HF.out
    rw [← hbl] at hxs ⊢
    have na := (hba.cell (p := ⟨g, k, none⟩) NR.out.2).trans NR.out.1
    have BA := Qh hba
    have SX := Qh hxs
    have R2 := Qh (RD2.out wa BA.out)
    clear hN hba hxs nr RD RD2
    go_wp2_with fail
    refine R2.out.mono ?_
    rintro e wb hN
    obtain ⟨ya, yc, rfl, hys, _, hbb⟩ := NewBytes.out (KR.out.on BA.out) hN HF.out
    rw [← hbl] at hys ⊢
    have nb := (hbb.cell (p := ⟨g, k, none⟩) (Nat.lt_of_lt_of_le NR.out.2 BA.out.size)).trans na
    have BB9 := Qh (bel2_ BA.out hbb)
    have HXS := Qh ((SX.out.below hbb Qn).more hbb.size)
    have HYS := Qh hys
    have S0 : ∀ y, Below wb.heap.size wb y → ((convert 38 9 (.slice xa bl xc)).run Tryz.prog y = .ok (.string (strOf fl.bs)) y ∧ (convert 38 9 (.slice ya bl yc)).run Tryz.prog y = .ok (.string (strOf fl.bs)) y ∧ y.cell? ⟨g, k, none⟩ = some (.string ⟨s.toArray⟩) ∧ Below wb.heap.size wb y) := fun y hy =>
     ⟨run_str ((HXS.out.below hy Qn).more hy.size) 38 5 9 Tryz.underlying38 Tryz.underlying5 Tryz.underlying9, run_str ((HYS.out.below hy Qn).more hy.size) 38 5 9 Tryz.underlying38 Tryz.underlying5 Tryz.underlying9, (hy.cell (p := ⟨g, k, none⟩) (block_lt_of_cell nb)).trans nb, hy⟩
    have S1 := S0 _ (Below.drew Qb)
    clear hN hbb hys na nb S0 R2 SX hbl
    generalize strOf fl.bs = str at *
    go_upto_region 1 with fail
    refine wp_region_held_drew (S := fun y => (convert 38 9 (.slice xa bl xc)).run Tryz.prog y = .ok (.string str) y ∧ (convert 38 9 (.slice ya bl yc)).run Tryz.prog y = .ok (.string str) y ∧ y.cell? ⟨g, k, none⟩ = some (.string ⟨s.toArray⟩) ∧ Below wb.heap.size wb y) (by kernel_rfl) S1 (fun hHeld => ?_)
    clear S1
    refine qi 0 (by assumption) ?_
    iterate 11 (refine qk rfl (by kernel_rfl) (fun _ _ _ h => h) (by intro w hSw; (try dsimp only at hSw); go_simp; all_goals with_reducible rfl) (by (try simp only [Act.put, lz]); rfl) ?_)
    refine qo (qi 12 (by assumption) ?_)
    iterate 5 (refine qk rfl (by kernel_rfl) (fun _ _ _ h => h) (by intro w hSw; (try dsimp only at hSw); go_simp; all_goals with_reducible rfl) (by (try simp only [Act.put, lz]); rfl) ?_)
    refine qo ?_
    refine take_first (i := 11) rfl (by kernel_rfl) (by kernel_rfl) (by kernel_rfl) (fun _ _ _ h => h) (GivesIf.call (by rfl) (fun w => ?_) (fun w hS => SY.out w (bel2_ BB9.out hS.2.2.2))) (by assumption) ?_
    · go_simp
      all_goals with_reducible rfl
    try simp only [Act.put, lz]
    refine take_first (i := 17) rfl (by kernel_rfl) (by kernel_rfl) (by kernel_rfl) (fun _ _ _ h => h) (GivesIf.call (by rfl) (fun w => ?_) (fun w hS => SY2.out w (bel2_ BB9.out hS.2.2.2))) (by assumption) ?_
    · go_simp
      all_goals with_reducible rfl
    try simp only [Act.put, lz]
    refine qi 18 (by assumption) ?_
    iterate 2 (refine qk rfl (by kernel_rfl) (fun _ _ _ h => h) (by intro w hSw; (try dsimp only at hSw); go_simp; all_goals with_reducible rfl) (by (try simp only [Act.put, lz]); rfl) ?_)
    refine qo ?_
    refine wpAnyH_done (by kernel_rfl) ?_ _
    have BC := Qh (bel2_ BB9.out hHeld.2.2.2)
    clear hHeld
    go_wp2
    go_roundw
    case rel => exact ⟨k + 1, HK.out, by go_num, HXX.out.trans (BC.out.mono HXX.out.size)⟩
    case measure => have := HK.out; simp [intOf]; omega
  have hlt' : ¬ (k : Int) < (n : Int) := by omega
  have B4 := Qh (bel2_ B3.out hx)
  clear hx
  go_wp2
  go_ret
  exact ⟨rfl, B4.out⟩
end
section
section
open Go.RowKit
open Go.Maps
theorem rD_crash (ks : List Int) (es es' : List REnt) (hl : es'.length = es.length) (h : ∀ (i : Nat) (e e' : REnt), es[i]? = some e → es'[i]? = some e' → e'.s = e.s ∧ e'.fl = crF ks i e.fl) : rD es' = crD ks es.length (rD es) := by
 show DataW.map _ = DataW.map (crE ks es.length (es.map REnt.ent))
 congr 1
 apply List.ext_getElem?
 intro i
 rw [crE_get, List.getElem?_map, List.getElem?_map]
 by_cases hi : i < es.length
 · rw [List.getElem?_eq_getElem hi, List.getElem?_eq_getElem (by omega)]
   obtain ⟨h1, h2⟩ := h i _ _ (List.getElem?_eq_getElem hi) (List.getElem?_eq_getElem (by omega))
   simp only [Option.map_some, if_pos hi]
   show some (Lit.string es'[i].s, DataW.held es'[i].fl) = some (Lit.string es[i].s, DataW.held (crF ks i es[i].fl))
   rw [h1, h2]
 rw [List.getElem?_eq_none (by omega), List.getElem?_eq_none (by omega)]
 rfl
section
variable {w : World} {rp : Nat} {t : St} {O : Nat → Prop} {a : Option Addr} {c : Nat} {es : List REnt}
theorem RdC.renew (h : RdC w rp t O a c es) {w1 : World} (hb : Below w.heap.size w w1) {a' : Option Addr} {c' : Nat} {es' : List REnt} {D' : FS} (hown : OwnFl w1 w.heap.size (.slice a' es'.length c') es') (hD : D' = rD es') (hG : Good D' t.room)
 (hby : ∀ e ∈ es', Sl w1 w1.heap.size e.a e.bs.length e.c e.bs ∧ (0 < e.bs.length → ∀ b o, e.a = some ⟨b, o, none⟩ → w.heap.size ≤ b ∧ (Value.slice a' es'.length c').ownBlock ≠ some b)) :
 RdC (w1.setCell ⟨rp, 1, none⟩ (.slice a' es'.length c')) rp ⟨D', t.room, t.fuse, t.fails⟩ (fun k => O k ∨ (w.heap.size ≤ k ∧ k < w1.heap.size)) a' c' es' ∧ But O w (w1.setCell ⟨rp, 1, none⟩ (.slice a' es'.length c')) := by
 have h1 := h.below hb
 have hrl := h.lt rp h.rpO
 have hs := heap_setCell_same w1 rp 1 _ _ (.slice a' es'.length c') h1.cells
 have hoth : ∀ k, k ≠ rp → (w1.setCell ⟨rp, 1, none⟩ (.slice a' es'.length c')).heap[k]? = w1.heap[k]? := fun k hk => Below.heap_setCell w1 ⟨rp, 1, none⟩ _ k hk
 have hz : (w1.setCell ⟨rp, 1, none⟩ (.slice a' es'.length c')).heap.size = w1.heap.size := by simp [World.setCell]
 have hob : ∀ g, (Value.slice a' es'.length c').ownBlock = some g → w.heap.size ≤ g ∧ g < w1.heap.size := fun g hg => hown.at_base hg
 refine ⟨⟨hs, ⟨hown.1, ?_⟩, hD, hG, fun e he => ?_, .inl h.rpO, fun g hg => ⟨.inr (hob g hg), by have := (hob g hg).1; omega⟩, fun k hk => ?_, h.fuse_, h.fails_⟩, ?_⟩
 · rcases hown.2 with h2 | ⟨g, cap, cur, e, h2, h3, h4⟩
   · exact .inl h2
   exact .inr ⟨g, cap, cur, e, Nat.zero_le _, (hoth g (by omega)).trans h3, h4⟩
 · obtain ⟨hsl, hn⟩ := hby e he
   refine ⟨hsl.same_ (by omega) (fun hp b o e' => hoth b (by have := (hn hp b o e').1; omega)), fun hp b o e' => ⟨.inr ⟨(hn hp b o e').1, ?_⟩, by have := (hn hp b o e').1; omega, (hn hp b o e').2⟩⟩
   obtain ⟨b', o', e2, hlt, _⟩ := hsl.at_ hp
   rw [e'] at e2
   injection e2 with e2
   injection e2 with e2
   omega
 · rcases hk with hk | hk
   · have := h1.lt k hk; omega
   omega
 exact (But.of_below (O := O) hb).setCell (p := ⟨rp, 1, none⟩) (.inl h.rpO) _
end
theorem good_crD {D : FS} {room : Nat} (h : Good D room) (ks : List Int) : ∀ k, k ≤ (strKeys D).length → Good (crD ks k D) room
 | 0, _ => by rw [crD_zero]; exact h
 | k + 1, hk => by
  obtain ⟨s, hs⟩ : ∃ s, (strKeys D)[k]? = some s := ⟨_, List.getElem?_eq_getElem (by omega)⟩
  obtain ⟨f, hf⟩ : ∃ f, fat D s = some f := Option.isSome_iff_exists.1 ((names_mem h s).1 (List.mem_of_getElem? hs))
  have hfk : fat (crD ks k D) s = some f := by rw [fat_crD ks k h hs hf, if_neg (by omega)]
  rw [crD_succ ks k h hs hf]
  exact good_cr (good_crD h ks k (by omega)) hfk ks k
end
section
open Go.RowKit
open Go.Maps
attribute [local go_sem] Oper.semAt_some
theorem wp_append_files_at {w : World} {o : Oper} {a : Act} {K : Act → World → Prop} {Q : Exit → Act → World → Prop} (s x : Operand)
 (ho : o.op = .call { callee := .builtin .append, args := #[s, x], argTypes := #[73, 73] })
 (base : Nat) (v : Value) (es : List REnt) (hs : a.eval s = v) (hown : OwnFl w base v es)
 (A : Addr) (m c : Nat) (es2 : List REnt) (hx : a.eval x = .slice (some A) m c) (hc : RFs w (some A) m c es2)
 (hbytes : es.length + m ≤ 1000) (hbase : base ≤ w.heap.size)
 (h : ∀ v' w', OwnFl w' base v' (es ++ es2) → w.grownBy w' v.ownBlock → (v'.ownBlock = v.ownBlock ∨ v'.ownBlock = some w.heap.size) → K (a.put o.dst v') w') :
 o.wp Tryz.prog a w K Q := by
 obtain ⟨i, hi, hz0, hz1, hz2⟩ := info_parts info_file
 have hl2 := hc.len
 have hfin : ∀ v' w', w'.ownsRow base 124 3 v' (es.length + m) (rcells es ++ rcells es2) → OwnFl w' base v' (es ++ es2) := fun v' w' h1 => by
  unfold OwnFl
  rw [rcells_append, List.length_append, hl2]
  exact h1
 obtain ⟨g, off, e, _, hcc⟩ := hc.at_ (by simp)
 injection e with e
 subst e
 obtain ⟨v', w', hr, h1, h2, _, h4⟩ := run_append_own_at (P := Tryz.prog) w base 73 o.type 124 i _ 3 48 Tryz.underlying73 hi hz0 hz1 hz2 rfl (by decide) v es.length (rcells es) hown ⟨g, off, none⟩ m c (rcells es2) (by rw [rcells_len, hl2])
  (fun j u hj => by rw [Addr.add_mid]; exact hcc j u hj) (rcells_one es2) (by unfold maxLen; omega) (by omega) hbase
 unfold Oper.wp execOp
 simp only [ho, resolve, invoke, builtin, Sem.run_bind, Sem.run_pure, Result.andThen_ok, List.map_toArray, List.map_cons, List.map_nil, hs, hx, hr]
 exact h v' w' (hfin _ _ h1) h2 h4
theorem file_lit (w3 : World) (e : REnt) : RFs (w3.alloc (.cells #[.string ⟨e.s.toArray⟩, .slice e.a e.bs.length e.c, .int .i64 (e.l : Int)] 124)) (some ⟨w3.heap.size, 0, none⟩) 1 1 [e] :=
 ⟨rfl, Nat.le_refl _, by simp [maxLen], (fun h => by cases h), fun _ => ⟨w3.heap.size, 0, rfl, by simp, fun j u hj => by
  rw [Nat.zero_add, cell_of_row _ _ j _ _ _ (heap_alloc_new w3 _), ← hj]
  show (#[Value.string ⟨e.s.toArray⟩, .slice e.a e.bs.length e.c, .int .i64 (e.l : Int)])[j]? = (e.cells ++ [])[j]?
  simp⟩⟩
theorem OwnFl.below {w w' : World} {base : Nat} {v : Value} {es : List REnt} (h : OwnFl w base v es) (hb : Below w.heap.size w w') : OwnFl w' base v es :=
 World.ownsRow.kept h (grown_of_below hb none) (by cases hv : v.ownBlock <;> simp)
theorem RdC.ent_good {w : World} {rp : Nat} {t : St} {O : Nat → Prop} {a : Option Addr} {c : Nat} {es : List REnt} (h : RdC w rp t O a c es) {k : Nat} {e : REnt} (hk : es[k]? = some e) :
 e.l ≤ e.bs.length ∧ e.bs.length ≤ 1048576 := by
 have hp := List.pairwise_iff_getElem.1 h.once
 have hkl := (List.getElem?_eq_some_iff.1 hk).1
 have hke := (List.getElem?_eq_some_iff.1 hk).2
 have hx : ridx es e.s = k := ridx_hit es e.s k e (fun j x hj hx hn => by
  have hjl := (List.getElem?_eq_some_iff.1 hx).1
  have hje := (List.getElem?_eq_some_iff.1 hx).2
  have := before_ne (hp j k hjl hkl hj)
  rw [hje, hke] at this
  exact this hn) hk rfl
 have hf : fat t.D e.s = some e.fl := by rw [h.D_, ridx_fat, hx, hk]; rfl
 have h1 := h.good.at_ hf
 have h2 := h.good.tot_
 have h3 := h.good.room_
 exact ⟨h1.2.1, by have := h1.2.2.2; show e.fl.bs.length ≤ _; omega⟩
structure CrR (W wr : World) (ks : List Int) (es : List REnt) (k : Nat) (v : Value) (cs : List REnt) : Prop where
 own : OwnFl wr W.heap.size v cs
 len : cs.length = k
 is : ∀ (i : Nat) (e e' : REnt), es[i]? = some e → cs[i]? = some e' → e'.s = e.s ∧ e'.fl = crF ks i e.fl
 by_ : ∀ e ∈ cs, Sl wr wr.heap.size e.a e.bs.length e.c e.bs ∧ (0 < e.bs.length → ∀ b o, e.a = some ⟨b, o, none⟩ → W.heap.size ≤ b ∧ v.ownBlock ≠ some b)
 below : Below W.heap.size W wr
theorem CrR.start (W : World) (ks : List Int) (es : List REnt) : CrR W W ks es 0 (.slice none 0 0) [] :=
 ⟨World.ownsRow_nil _ _ _ _, rfl, fun _ _ _ _ h => by simp at h, fun e he => (by cases he), Below.refl _ _⟩
theorem CrR.next {W wr : World} {ks : List Int} {es : List REnt} {k : Nat} {v : Value} {cs : List REnt} (h : CrR W wr ks es k v cs) {w2 w3 : World} {v' : Value} (e : REnt) (he : es[k]? = some e) (xa : Option Addr) (xc : Nat)
 (hb : Below wr.heap.size wr w2) (hs : Sl w2 w2.heap.size xa (crM ks k e.fl) xc (e.bs.take (crM ks k e.fl))) (hn : ∀ b o, xa = some ⟨b, o, none⟩ → wr.heap.size ≤ b)
 (hown : OwnFl w3 W.heap.size v' (cs ++ [⟨e.s, xa, xc, e.bs.take (crM ks k e.fl), crM ks k e.fl⟩])) (hg : w2.grownBy w3 v.ownBlock) (hat : v'.ownBlock = v.ownBlock ∨ v'.ownBlock = some w2.heap.size) :
 CrR W w3 ks es (k + 1) v' (cs ++ [⟨e.s, xa, xc, e.bs.take (crM ks k e.fl), crM ks k e.fl⟩]) := by
 have hvl : ∀ b, v.ownBlock = some b → W.heap.size ≤ b ∧ b < wr.heap.size := fun b hb => h.own.at_base hb
 have hz := hb.size
 have hz3 := hg.size
 have hlen := hs.length
 refine ⟨hown, by simp [h.len], fun i x y hx hy => ?_, fun x hx => ?_, (h.below.trans (hb.mono h.below.size)).grown hg (Nat.le_trans h.below.size hz) (fun b hb' => (hvl b hb').1)⟩
 · by_cases hi : i < cs.length
   · rw [List.getElem?_append_left hi] at hy
     exact h.is i x y hx hy
   rw [List.getElem?_append_right (by omega)] at hy
   have hi0 : i - cs.length = 0 := by
    have := (List.getElem?_eq_some_iff.1 hy).1
    simp at this
    omega
   rw [hi0] at hy
   have hik : i = k := by have := h.len; omega
   subst hik
   rw [he] at hx
   injection hx with hx
   subst hx
   have hy' : (⟨e.s, xa, xc, e.bs.take (crM ks i e.fl), crM ks i e.fl⟩ : REnt) = y := by simpa using hy
   subst hy'
   exact ⟨rfl, rfl⟩
 have hv' : ∀ b, (v.ownBlock ≠ some b) → b < w2.heap.size → v'.ownBlock ≠ some b := fun b h1 h2 h3 => by
  rcases hat with h4 | h4
  · exact h1 (by rw [← h4]; exact h3)
  rw [h4] at h3
  injection h3 with h3
  omega
 rcases List.mem_append.1 hx with hx | hx
 · obtain ⟨h1, h2⟩ := h.by_ x hx
   have hin : ∀ b o, 0 < x.bs.length → x.a = some ⟨b, o, none⟩ → b < wr.heap.size := fun b o hp e' => by
    obtain ⟨b', o', e2, hlt, _⟩ := h1.at_ hp
    rw [e'] at e2; injection e2 with e2; injection e2 with e2; omega
   refine ⟨h1.same_ (by omega) (fun hp b o e' => (hg.block b (by have := hin b o hp e'; omega) (fun e2 => (h2 hp b o e').2 e2.symm)).trans (hb.block b (hin b o hp e'))), fun hp b o e' => ⟨(h2 hp b o e').1, hv' b (h2 hp b o e').2 (by have := hin b o hp e'; omega)⟩⟩
 have hx' : x = ⟨e.s, xa, xc, e.bs.take (crM ks k e.fl), crM ks k e.fl⟩ := by simpa using hx
 subst hx'
 simp only
 rw [hlen]
 have hin : ∀ b o, 0 < crM ks k e.fl → xa = some ⟨b, o, none⟩ → b < w2.heap.size := fun b o hp e' => by
  obtain ⟨b', o', e2, hlt, _⟩ := hs.at_ hp
  rw [e'] at e2; injection e2 with e2; injection e2 with e2; omega
 have hvn : ∀ b o, xa = some ⟨b, o, none⟩ → v.ownBlock ≠ some b := fun b o e' e2 => by have := (hvl b e2).2; have := hn b o e'; omega
 exact ⟨hs.same_ (by omega) (fun hp b o e' => hg.block b (hin b o hp e') (fun e2 => hvn b o e' e2.symm)), fun hp b o e' => ⟨Nat.le_trans h.below.size (hn b o e'), hv' b (hvn b o e') (hin b o hp e')⟩⟩
end
section
open Go.RowKit
open Go.Maps
attribute [local go_sem] Oper.semAt_some
section
variable {w : World} {rp : Nat} {t : St} {O : Nat → Prop} {a : Option Addr} {c : Nat} {es : List REnt}
theorem rcrash_any (h : RdC w rp t O a c es) (ks : List Int) (ka : Option Addr) (n kc : Nat) (hr : Row w w.heap.size ka n kc 1 (intsC ks)) (hn : ks.length = n) (hfar : 0 < n → ∀ k o, ka = some ⟨k, o, none⟩ → ¬ O k) :
 Calls Tryz.prog 47 #[.pointer (some ⟨rp, 0, none⟩), .slice ka n kc] w fun e w' => e = .returned (.tuple #[]) ∧ RMv w rp O (t.crash ks) w' := by
 have c1 := h.cell.2.1
 have hcap := h.len_
 have hrl := h.lt rp h.rpO
 have HH := Qh h
 have HR := Qh (Qa hr hfar)
 clear h hr hfar
 obtain ⟨L, hL⟩ : ∃ L, L = es.length := ⟨_, rfl⟩
 rw [← hL] at c1 hcap
 have HL := Qh hL
 have C1 := Qh c1
 clear hL c1
 go_enter Tryz.func47, Tryz.ntmps47
 go_wp2_with fail
 go_loopw [4, 5] (fun v i wr => ∃ (k : Nat) (cs : List REnt), k ≤ L ∧ i = .int .i64 (k : Int) ∧ CrR w wr ks es k v cs) (fun _ i _ => L - (intOf i).toNat)
 case atStart => exact ⟨0, [], Nat.zero_le _, rfl, CrR.start _ _ _⟩
 case round =>
  obtain ⟨k, cs, hk, rfl, hc⟩ := hrel
  have CR := Qh hc
  obtain ⟨va, vc, hv⟩ := hc.own.form
  rw [hc.len] at hv
  subst hv
  have k1 := (hc.below.cell (p := ⟨rp, 1, none⟩) hrl).trans C1.out
  clear hc
  by_cases hlt : k < L
  · have hke : k < es.length := by have := HL.out; omega
    obtain ⟨g, hg, _, _, hgl, _, _, hcs⟩ := HH.out.at_ (by omega)
    subst hg
    obtain ⟨e, he⟩ : ∃ e, e = es[k] := ⟨_, rfl⟩
    have hek : es[k]? = some e := by rw [he]; exact List.getElem?_eq_getElem hke
    obtain ⟨q0, q1, q2⟩ := hcs k e hek
    have x0 := (CR.out.below.cell (p := ⟨g, k * 3, none⟩) hgl).trans q0
    have x1 := (CR.out.below.cell (p := ⟨g, k * 3 + 1, none⟩) hgl).trans q1
    have x2 := (CR.out.below.cell (p := ⟨g, k * 3 + 2, none⟩) hgl).trans q2
    have hbe := HH.out.bytes e (List.mem_of_getElem? hek)
    have hG := HH.out.ent_good hek
    obtain ⟨m, hm⟩ : ∃ m, m = crM ks k e.fl := ⟨_, rfl⟩
    have hml := crM_le ks k (f := e.fl) hG.1
    rw [← hm] at hml
    have HM := Qh (Qa hm hek)
    have HE := Qh hbe
    have hce := hbe.1.le
    have hl1 : e.l ≤ e.bs.length := hG.1
    have hl2 : e.bs.length ≤ 1048576 := hG.2
    have hml1 : e.l ≤ m := hml.1
    have hml2 : m ≤ e.bs.length := hml.2
    have FX : Hid (∀ x, Below (wr.alloc (.cells #[.string ⟨e.s.toArray⟩, .slice e.a e.bs.length e.c, .int .i64 (e.l : Int)] 124)).heap.size (wr.alloc (.cells #[.string ⟨e.s.toArray⟩, .slice e.a e.bs.length e.c, .int .i64 (e.l : Int)] 124)) x → x.cell? ⟨wr.heap.size, 0, none⟩ = some (.string ⟨e.s.toArray⟩) ∧ x.cell? ⟨wr.heap.size, 1, none⟩ = some (.slice e.a e.bs.length e.c) ∧ x.cell? ⟨wr.heap.size, 2, none⟩ = some (.int .i64 (e.l : Int))) := fun x hx => by
     have hb := (hx.block wr.heap.size (by simp)).trans (heap_alloc_new wr (.cells #[.string ⟨e.s.toArray⟩, .slice e.a e.bs.length e.c, .int .i64 (e.l : Int)] 124))
     exact ⟨(cell_of_row _ _ 0 _ _ _ hb).trans rfl, (cell_of_row _ _ 1 _ _ _ hb).trans rfl, (cell_of_row _ _ 2 _ _ _ hb).trans rfl⟩
    have cc : ∀ x, (Instr.slice 38 (.slice e.a e.bs.length e.c) none (some (.int .i64 (m : Int))) none).run Tryz.prog x = .ok (.slice e.a m e.c) x := run_cut_to (P := Tryz.prog) 38 5 Tryz.underlying38 info_u8 e.a e.bs.length e.c m (by omega)
    have hsub : IntKind.i64.wrap ((e.bs.length : Int) - (e.l : Int)) = (e.bs.length : Int) - (e.l : Int) := by rw [IntKind.wrap_i64]; omega
    clear hbe hG hcs q0 q1 q2 he hm hml hek
    by_cases hkn : k < n
    · have hrow := (HR.out.1.below CR.out.below Qn)
      obtain ⟨b, o, rfl, hbw, hcc⟩ := hrow.at_ (by omega)
      have y0 := hcc k (by omega)
      simp only [intsC] at y0
      have HY := Qh (fun (x : World) (hx : Below wr.heap.size wr x) => (hx.cell (p := ⟨b, o + k, none⟩) (block_lt_of_cell y0)).trans y0)
      have hq : m = e.l + (min (max (ks.getD k 0) 0) ((e.bs.length : Int) - (e.l : Int))).toNat := by
       rw [HM.out.1]
       unfold crM keptV
       rw [if_pos (by omega)]
      have m1 := fun (x : World) => max2_any (ks.getD k 0) 0 x
      have m2 := fun (x : World) => min2i_any (max (ks.getD k 0) 0) ((e.bs.length : Int) - (e.l : Int)) x
      have hadd : IntKind.i64.wrap ((e.l : Int) + min (max (ks.getD k 0) 0) ((e.bs.length : Int) - (e.l : Int))) = (m : Int) := by rw [IntKind.wrap_i64]; omega
      have hF0 := FX.out _ (Below.drew Qb)
      have hY0 := HY.out _ (Below.drew (Qb.alloc Qn (.cells #[.string ⟨e.s.toArray⟩, .slice e.a e.bs.length e.c, .int .i64 (e.l : Int)] 124)))
      clear hcc hrow hq y0
      generalize ks.getD k 0 = kv at *
      go_wp2_with fail
      refine wp_region_held_drew (S := fun x => x.cell? ⟨b, o + k, none⟩ = some (.int .i64 kv) ∧ x.cell? ⟨wr.heap.size, 1, none⟩ = some (.slice e.a e.bs.length e.c) ∧ x.cell? ⟨wr.heap.size, 2, none⟩ = some (.int .i64 (e.l : Int))) (by kernel_rfl) ⟨hY0, hF0.2.1, hF0.2.2⟩ (fun hHeld => ?_)
      refine qi 0 (by assumption) ?_
      iterate 13 (refine qk rfl (by kernel_rfl) (fun _ _ _ h => h) (by intro w hSw; (try dsimp only at hSw); go_simp; all_goals with_reducible rfl) (by (try simp only [Act.put, lz]); rfl) ?_)
      refine qo ?_
      refine wpAnyH_done (by kernel_rfl) ?_ _
      clear hHeld x0 x1 x2
      go_wp2_with fail
      have hX : Below (wr.alloc (.cells #[.string ⟨e.s.toArray⟩, .slice e.a e.bs.length e.c, .int .i64 (e.l : Int)] 124)).heap.size (wr.alloc (.cells #[.string ⟨e.s.toArray⟩, .slice e.a e.bs.length e.c, .int .i64 (e.l : Int)] 124)) (wr.alloc (.cells #[.string ⟨e.s.toArray⟩, .slice e.a e.bs.length e.c, .int .i64 (e.l : Int)] 124)).drew.drew := Below.drew (Below.drew Qb)
      have fx := FX.out _ hX
      have hb1 : Below (wr.alloc (.cells #[.string ⟨e.s.toArray⟩, .slice e.a e.bs.length e.c, .int .i64 (e.l : Int)] 124)).heap.size (wr.alloc (.cells #[.string ⟨e.s.toArray⟩, .slice e.a e.bs.length e.c, .int .i64 (e.l : Int)] 124)) ((wr.alloc (.cells #[.string ⟨e.s.toArray⟩, .slice e.a e.bs.length e.c, .int .i64 (e.l : Int)] 124)).drew.drew.alloc (.cells #[] 5)) := hX.alloc hX.size _
      have hown1 : OwnB ((wr.alloc (.cells #[.string ⟨e.s.toArray⟩, .slice e.a e.bs.length e.c, .int .i64 (e.l : Int)] 124)).drew.drew.alloc (.cells #[] 5)) (wr.alloc (.cells #[.string ⟨e.s.toArray⟩, .slice e.a e.bs.length e.c, .int .i64 (e.l : Int)] 124)).heap.size 5 (.slice (some ⟨wr.heap.size + 1, 0, none⟩) 0 0) [] := by rw [show wr.heap.size + 1 = (wr.alloc (.cells #[.string ⟨e.s.toArray⟩, .slice e.a e.bs.length e.c, .int .i64 (e.l : Int)] 124)).heap.size from by simp]; exact OwnB.lit (w := (wr.alloc (.cells #[.string ⟨e.s.toArray⟩, .slice e.a e.bs.length e.c, .int .i64 (e.l : Int)] 124)).drew.drew) _ [] Qn (by decide)
      have f1 := FX.out _ hb1
      refine wp_region_held_drew (S := fun x => x.cell? ⟨wr.heap.size, 0, none⟩ = some (.string ⟨e.s.toArray⟩) ∧ x.cell? ⟨wr.heap.size, 1, none⟩ = some (.slice e.a e.bs.length e.c)) (by kernel_rfl) ⟨fx.1, fx.2.1⟩ (fun hHeld => ?_)
      refine qi 0 (by assumption) ?_
      iterate 3 (refine qk rfl (by kernel_rfl) (fun _ _ _ h => h) (by intro w hSw; (try dsimp only at hSw); go_simp; all_goals with_reducible rfl) (by (try simp only [Act.put, lz]); rfl) ?_)
      refine qo (qi 4 (by assumption) ?_)
      iterate 4 (refine qk rfl (by kernel_rfl) (fun _ _ _ h => h) (by intro w hSw; (try dsimp only at hSw); go_simp; all_goals with_reducible rfl) (by (try simp only [Act.put, lz]); rfl) ?_)
      refine qo (qi 9 (by assumption) ?_)
      refine qk rfl (by kernel_rfl) (fun _ _ _ h => h) (by intro w hSw; (try dsimp only at hSw); go_simp; all_goals with_reducible rfl) (by (try simp only [Act.put, lz]); rfl) ?_
      refine qo ?_
      refine qr 3 rfl (by kernel_rfl) (fun K hK => ?_)
      rw [if_pos (by rfl)]
      go_simp
      refine hK.out _ _ ?_ (fun hHeld => ?_)
      · exact ⟨f1.1, f1.2.1⟩
      clear hK K
      try simp only [Act.put, lz]
      refine qr 8 rfl (by kernel_rfl) (fun K hK => ?_)
      rw [if_pos (by rfl)]
      refine wp_append_sl (.tmp 48) (.tmp 52) _ rfl (wr.alloc (.cells #[.string ⟨e.s.toArray⟩, .slice e.a e.bs.length e.c, .int .i64 (e.l : Int)] 124)).heap.size _ Tryz.underlying38 info_u8 (.slice (some ⟨wr.heap.size + 1, 0, none⟩) 0 0) [] rfl hown1 _ e.a m e.c (e.bs.take m) rfl (((HE.out.1.below CR.out.below Qn).more CR.out.below.size).below ((Qb.alloc Qn _).trans (hb1.mono (by simp))) Qn |>.take hml2) (by simp; omega) (by simp) ?_
      intro v1 w3 ho1 hg1 hat1
      rw [List.nil_append] at ho1
      have hb3 : Below (wr.alloc (.cells #[.string ⟨e.s.toArray⟩, .slice e.a e.bs.length e.c, .int .i64 (e.l : Int)] 124)).heap.size (wr.alloc (.cells #[.string ⟨e.s.toArray⟩, .slice e.a e.bs.length e.c, .int .i64 (e.l : Int)] 124)) w3 := hb1.grown hg1 hb1.size (fun k hk => by simp [Value.ownBlock] at hk; simp; omega)
      have f3 := FX.out _ hb3
      refine hK.out _ _ ?_ (fun hHeld => ?_)
      · exact ⟨f3.1, f3.2.1⟩
      clear hK K
      try simp only [Act.put, lz]
      obtain ⟨xa, xc, hv1, hs4, hbb⟩ := ho1.sl_base (fun c hc => HE.out.1.byte c (List.mem_of_mem_take hc))
      have htl : (e.bs.take m).length = m := by rw [List.length_take]; omega
      rw [htl] at hv1 hs4
      subst hv1
      refine qi 10 (by assumption) ?_
      refine qk rfl (by kernel_rfl) (fun _ _ _ h => h) (by intro w hSw; (try dsimp only at hSw); go_simp; all_goals with_reducible rfl) (by (try simp only [Act.put, lz]); rfl) ?_
      refine qo ?_
      refine qr 11 rfl (by kernel_rfl) (fun K hK => ?_)
      rw [if_pos (by rfl)]
      go_simp
      have hb4 := hb3.alloc hb3.size (.cells #[.string ⟨e.s.toArray⟩, .slice xa m xc, .int .i64 (m : Int)] 124)
      have f4 := FX.out _ hb4
      refine hK.out _ _ ?_ (fun hHeld => ?_)
      · exact ⟨f4.1, f4.2.1⟩
      clear hK K
      try simp only [Act.put, lz]
      have hbw : Below wr.heap.size wr (w3.alloc (.cells #[.string ⟨e.s.toArray⟩, .slice xa m xc, .int .i64 (m : Int)] 124)) := (Qb.alloc Qn (.cells #[.string ⟨e.s.toArray⟩, .slice e.a e.bs.length e.c, .int .i64 (e.l : Int)] 124)).trans (hb4.mono (by simp))
      have hlit := file_lit w3 ⟨e.s, xa, xc, e.bs.take m, m⟩
      change RFs (w3.alloc (.cells #[.string ⟨e.s.toArray⟩, .slice xa (e.bs.take m).length xc, .int .i64 (m : Int)] 124)) _ _ _ _ at hlit
      rw [htl] at hlit
      refine qr 12 rfl (by kernel_rfl) (fun K hK => ?_)
      rw [if_pos (by rfl)]
      refine wp_append_files_at (.tmp 45) (.tmp 56) rfl w.heap.size (.slice va k vc) cs rfl (CR.out.own.below hbw) ⟨w3.heap.size, 0, none⟩ 1 1 [⟨e.s, xa, xc, e.bs.take m, m⟩] rfl hlit (by have := CR.out.len; omega) (Nat.le_trans CR.out.below.size hbw.size) ?_
      intro v5 w5 ho5 hg5 hat5
      have hvne : some wr.heap.size ≠ (Value.slice va k vc).ownBlock := fun e2 => by have := (CR.out.own.at_base e2.symm).2; omega
      refine hK.out _ _ ?_ (fun hHeld => ?_)
      · exact ⟨hg5.cell f4.1 hvne, hg5.cell f4.2.1 hvne⟩
      clear hK K
      try simp only [Act.put, lz]
      refine qi 13 (by assumption) ?_
      refine qk rfl (by kernel_rfl) (fun _ _ _ h => h) (by intro w hSw; (try dsimp only at hSw); go_simp; all_goals with_reducible rfl) (by (try simp only [Act.put, lz]); rfl) ?_
      refine qo ?_
      refine wpAnyH_done (by kernel_rfl) ?_ _
      have HN : Hid (CrR w w5 ks es (k + 1) v5 (cs ++ [⟨e.s, xa, xc, e.bs.take m, m⟩])) := by
       obtain ⟨hm, hek⟩ := HM.out
       subst hm
       exact CR.out.next e hek xa xc hbw ((hs4.below (Qb.alloc Qn _) Qn).more (by simp)) (fun b' o' hb' => by have := hbb b' o' hb'; simp at this; omega) ho5 hg5 hat5
      clear hHeld ho5 hg5 hat5 hs4 hbb hb4 hb3 hb1 hX fx f1 f3 f4 hlit hbw hown1 ho1 hg1 hat1
      go_wp2
      go_roundw
      case rel => exact ⟨k + 1, _, by omega, by go_num, HN.out⟩
      case measure => simp [intOf]; omega
    have hq : m = e.l := by
     rw [HM.out.1]
     unfold crM keptV
     rw [if_neg (by omega)]
     simp
    have hadd : IntKind.i64.wrap (e.l : Int) = (m : Int) := by rw [IntKind.wrap_i64]; omega
    have hadd0 : IntKind.i64.wrap ((e.l : Int) + 0) = (m : Int) := by rw [IntKind.wrap_i64]; omega
    have hF0 := FX.out _ Qb
    obtain ⟨z0, z1, z2⟩ := hF0
    clear hq
    go_wp2_with fail
    have hX : Below (wr.alloc (.cells #[.string ⟨e.s.toArray⟩, .slice e.a e.bs.length e.c, .int .i64 (e.l : Int)] 124)).heap.size (wr.alloc (.cells #[.string ⟨e.s.toArray⟩, .slice e.a e.bs.length e.c, .int .i64 (e.l : Int)] 124)) (wr.alloc (.cells #[.string ⟨e.s.toArray⟩, .slice e.a e.bs.length e.c, .int .i64 (e.l : Int)] 124)).drew := Below.drew Qb
    have fx := FX.out _ hX
    have hb1 : Below (wr.alloc (.cells #[.string ⟨e.s.toArray⟩, .slice e.a e.bs.length e.c, .int .i64 (e.l : Int)] 124)).heap.size (wr.alloc (.cells #[.string ⟨e.s.toArray⟩, .slice e.a e.bs.length e.c, .int .i64 (e.l : Int)] 124)) ((wr.alloc (.cells #[.string ⟨e.s.toArray⟩, .slice e.a e.bs.length e.c, .int .i64 (e.l : Int)] 124)).drew.alloc (.cells #[] 5)) := hX.alloc hX.size _
    have hown1 : OwnB ((wr.alloc (.cells #[.string ⟨e.s.toArray⟩, .slice e.a e.bs.length e.c, .int .i64 (e.l : Int)] 124)).drew.alloc (.cells #[] 5)) (wr.alloc (.cells #[.string ⟨e.s.toArray⟩, .slice e.a e.bs.length e.c, .int .i64 (e.l : Int)] 124)).heap.size 5 (.slice (some ⟨wr.heap.size + 1, 0, none⟩) 0 0) [] := by rw [show wr.heap.size + 1 = (wr.alloc (.cells #[.string ⟨e.s.toArray⟩, .slice e.a e.bs.length e.c, .int .i64 (e.l : Int)] 124)).heap.size from by simp]; exact OwnB.lit (w := (wr.alloc (.cells #[.string ⟨e.s.toArray⟩, .slice e.a e.bs.length e.c, .int .i64 (e.l : Int)] 124)).drew) _ [] Qn (by decide)
    have f1 := FX.out _ hb1
    refine wp_region_held_drew (S := fun x => x.cell? ⟨wr.heap.size, 0, none⟩ = some (.string ⟨e.s.toArray⟩) ∧ x.cell? ⟨wr.heap.size, 1, none⟩ = some (.slice e.a e.bs.length e.c)) (by kernel_rfl) ⟨fx.1, fx.2.1⟩ (fun hHeld => ?_)
    refine qi 0 (by assumption) ?_
    iterate 3 (refine qk rfl (by kernel_rfl) (fun _ _ _ h => h) (by intro w hSw; (try dsimp only at hSw); go_simp; all_goals with_reducible rfl) (by (try simp only [Act.put, lz]); rfl) ?_)
    refine qo (qi 4 (by assumption) ?_)
    iterate 4 (refine qk rfl (by kernel_rfl) (fun _ _ _ h => h) (by intro w hSw; (try dsimp only at hSw); go_simp; all_goals with_reducible rfl) (by (try simp only [Act.put, lz]); rfl) ?_)
    refine qo (qi 9 (by assumption) ?_)
    refine qk rfl (by kernel_rfl) (fun _ _ _ h => h) (by intro w hSw; (try dsimp only at hSw); go_simp; all_goals with_reducible rfl) (by (try simp only [Act.put, lz]); rfl) ?_
    refine qo ?_
    refine qr 3 rfl (by kernel_rfl) (fun K hK => ?_)
    rw [if_pos (by rfl)]
    go_simp
    refine hK.out _ _ ?_ (fun hHeld => ?_)
    · exact ⟨f1.1, f1.2.1⟩
    clear hK K
    try simp only [Act.put, lz]
    refine qr 8 rfl (by kernel_rfl) (fun K hK => ?_)
    rw [if_pos (by rfl)]
    refine wp_append_sl (.tmp 48) (.tmp 52) _ rfl (wr.alloc (.cells #[.string ⟨e.s.toArray⟩, .slice e.a e.bs.length e.c, .int .i64 (e.l : Int)] 124)).heap.size _ Tryz.underlying38 info_u8 (.slice (some ⟨wr.heap.size + 1, 0, none⟩) 0 0) [] rfl hown1 _ e.a m e.c (e.bs.take m) rfl (((HE.out.1.below CR.out.below Qn).more CR.out.below.size).below ((Qb.alloc Qn _).trans (hb1.mono (by simp))) Qn |>.take hml2) (by simp; omega) (by simp) ?_
    intro v1 w3 ho1 hg1 hat1
    rw [List.nil_append] at ho1
    have hb3 : Below (wr.alloc (.cells #[.string ⟨e.s.toArray⟩, .slice e.a e.bs.length e.c, .int .i64 (e.l : Int)] 124)).heap.size (wr.alloc (.cells #[.string ⟨e.s.toArray⟩, .slice e.a e.bs.length e.c, .int .i64 (e.l : Int)] 124)) w3 := hb1.grown hg1 hb1.size (fun k hk => by simp [Value.ownBlock] at hk; simp; omega)
    have f3 := FX.out _ hb3
    refine hK.out _ _ ?_ (fun hHeld => ?_)
    · exact ⟨f3.1, f3.2.1⟩
    clear hK K
    try simp only [Act.put, lz]
    obtain ⟨xa, xc, hv1, hs4, hbb⟩ := ho1.sl_base (fun c hc => HE.out.1.byte c (List.mem_of_mem_take hc))
    have htl : (e.bs.take m).length = m := by rw [List.length_take]; omega
    rw [htl] at hv1 hs4
    subst hv1
    refine qi 10 (by assumption) ?_
    refine qk rfl (by kernel_rfl) (fun _ _ _ h => h) (by intro w hSw; (try dsimp only at hSw); go_simp; all_goals with_reducible rfl) (by (try simp only [Act.put, lz]); rfl) ?_
    refine qo ?_
    refine qr 11 rfl (by kernel_rfl) (fun K hK => ?_)
    rw [if_pos (by rfl)]
    go_simp
    have hb4 := hb3.alloc hb3.size (.cells #[.string ⟨e.s.toArray⟩, .slice xa m xc, .int .i64 (m : Int)] 124)
    have f4 := FX.out _ hb4
    refine hK.out _ _ ?_ (fun hHeld => ?_)
    · exact ⟨f4.1, f4.2.1⟩
    clear hK K
    try simp only [Act.put, lz]
    have hbw : Below wr.heap.size wr (w3.alloc (.cells #[.string ⟨e.s.toArray⟩, .slice xa m xc, .int .i64 (m : Int)] 124)) := (Qb.alloc Qn (.cells #[.string ⟨e.s.toArray⟩, .slice e.a e.bs.length e.c, .int .i64 (e.l : Int)] 124)).trans (hb4.mono (by simp))
    have hlit := file_lit w3 ⟨e.s, xa, xc, e.bs.take m, m⟩
    change RFs (w3.alloc (.cells #[.string ⟨e.s.toArray⟩, .slice xa (e.bs.take m).length xc, .int .i64 (m : Int)] 124)) _ _ _ _ at hlit
    rw [htl] at hlit
    refine qr 12 rfl (by kernel_rfl) (fun K hK => ?_)
    rw [if_pos (by rfl)]
    refine wp_append_files_at (.tmp 45) (.tmp 56) rfl w.heap.size (.slice va k vc) cs rfl (CR.out.own.below hbw) ⟨w3.heap.size, 0, none⟩ 1 1 [⟨e.s, xa, xc, e.bs.take m, m⟩] rfl hlit (by have := CR.out.len; omega) (Nat.le_trans CR.out.below.size hbw.size) ?_
    intro v5 w5 ho5 hg5 hat5
    have hvne : some wr.heap.size ≠ (Value.slice va k vc).ownBlock := fun e2 => by have := (CR.out.own.at_base e2.symm).2; omega
    refine hK.out _ _ ?_ (fun hHeld => ?_)
    · exact ⟨hg5.cell f4.1 hvne, hg5.cell f4.2.1 hvne⟩
    clear hK K
    try simp only [Act.put, lz]
    refine qi 13 (by assumption) ?_
    refine qk rfl (by kernel_rfl) (fun _ _ _ h => h) (by intro w hSw; (try dsimp only at hSw); go_simp; all_goals with_reducible rfl) (by (try simp only [Act.put, lz]); rfl) ?_
    refine qo ?_
    refine wpAnyH_done (by kernel_rfl) ?_ _
    have HN : Hid (CrR w w5 ks es (k + 1) v5 (cs ++ [⟨e.s, xa, xc, e.bs.take m, m⟩])) := by
     obtain ⟨hm, hek⟩ := HM.out
     subst hm
     exact CR.out.next e hek xa xc hbw ((hs4.below (Qb.alloc Qn _) Qn).more (by simp)) (fun b' o' hb' => by have := hbb b' o' hb'; simp at this; omega) ho5 hg5 hat5
    clear hHeld ho5 hg5 hat5 hs4 hbb hb4 hb3 hb1 hX fx f1 f3 f4 hlit hbw hown1 ho1 hg1 hat1
    go_wp2
    go_roundw
    case rel => exact ⟨k + 1, _, by omega, by go_num, HN.out⟩
    case measure => simp [intOf]; omega
  have hkL : k = L := by omega
  subst hkL
  obtain ⟨_, _, d2, d3, z⟩ := (HH.out.below CR.out.below).cell
  have z1 := z 1
  have z2 := z 2
  have z3 := z 3
  have hlen : cs.length = es.length := by have := CR.out.len; have := HL.out; omega
  have hD : crD ks es.length t.D = rD cs := by rw [HH.out.D_]; exact (rD_crash ks es cs hlen CR.out.is).symm
  have hG : Good (crD ks es.length t.D) t.room := good_crD HH.out.good ks es.length (by rw [HH.out.D_, rD_names]; simp)
  have X1 := HH.out.renew CR.out.below (a' := va) (c' := vc) (es' := cs) (D' := crD ks es.length t.D) (by rw [CR.out.len]; exact CR.out.own) hD hG (fun x hx => by rw [CR.out.len]; exact CR.out.by_ x hx)
  rw [CR.out.len] at X1
  have X2 := X1.1.set_ 2 (.int .i64 (-1)) (fuse' := -1) (fails' := t.fails) (by rw [CR.out.len]; rfl) (by decide) HH.out.fails_
  have X3 := X2.set_ 3 (.int .i64 0) (fuse' := -1) (fails' := 0) (by rw [CR.out.len]; rfl) (by decide) (by decide)
  have hsz : es.length = size t.D := by rw [HH.out.D_, rD_size]
  have XF : Hid (RMv w rp O (t.crash ks) (((wr.setCell ⟨rp, 1, none⟩ (.slice va k vc)).setCell ⟨rp, 2, none⟩ (.int .i64 (-1))).setCell ⟨rp, 3, none⟩ (.int .i64 0))) := by
   refine ⟨fun k' => O k' ∨ (w.heap.size ≤ k' ∧ k' < wr.heap.size), ⟨va, vc, cs, ?_⟩, ((X1.2.setCell (p := ⟨rp, 2, none⟩) (.inl HH.out.rpO) _).setCell (p := ⟨rp, 3, none⟩) (.inl HH.out.rpO) _), fun x hx => hx.imp id (fun h => h.1)⟩
   have h3 := X3
   unfold St.crash
   rw [← hsz]
   exact h3
  clear X1 X2 X3 hG hD hlen hsz z
  go_wp2
  go_end0
  exact ⟨rfl, XF.out⟩
end
theorem RK.crash {w0 w : World} {rp : Nat} {t : St} {O : Nat → Prop} (h : RK w0 w rp t O) (ks : List Int) (a : Option Addr) (n c : Nat) (hr : Row w w.heap.size a n c 1 (intsC ks)) (hn : ks.length = n) (hfar : 0 < n → ∀ k o, a = some ⟨k, o, none⟩ → ¬ O k) :
 Calls Tryz.prog 47 #[.pointer (some ⟨rp, 0, none⟩), .slice a n c] w fun e w' => e = .returned (.tuple #[]) ∧ Mr w0 w rp O (t.crash ks) w' := by
 obtain ⟨a0, c0, es, h1⟩ := h.is
 exact (rcrash_any h1 ks a n c hr hn hfar).mono fun _ _ hT => ⟨hT.1, h.mv hT.2⟩
end
end
section
open Go.RowKit Go.Sort
open Go.Maps
theorem DK.but {w0 w w' : World} {dp : Nat} {t : St} {O P : Nat → Prop} (h : DK w0 w dp t O) (hb : But P w w') (hno : ∀ k, O k → ¬ P k) (hP : ∀ k, P k → w0.heap.size ≤ k) : DK w0 w' dp t O :=
 ⟨Dsk.but h.is hb hno, h.base, h.below.trans (hb.below h.below.size hP)⟩
structure DP (w0 w : World) (dp rp : Nat) (t u : St) (O P : Nat → Prop) : Prop where
 dk : DK w0 w dp t O
 rk : RK w0 w rp u P
 no : ∀ k, O k → ¬ P k
section
variable {w0 w w' : World} {dp rp : Nat} {t u t' : St} {O P : Nat → Prop}
theorem DP.on (h : DP w0 w dp rp t u O P) (hb : Below w.heap.size w w') : DP w0 w' dp rp t u O P := ⟨h.dk.on hb, h.rk.on hb, h.no⟩
theorem DP.one (h : DP w0 w dp rp t u O P) (hm : Mv w0 w dp O t' w') : ∃ O', DP w0 w' dp rp t' u O' P ∧ But O w w' := by
 obtain ⟨O', h1, h2, h3⟩ := hm.far
 exact ⟨O', ⟨h1, h.rk.but h2 (fun k hp ho => h.no k ho hp) h.dk.base, fun k ho hp => h3 k (h.rk.lt k hp) (fun h4 => h.no k h4 hp) ho⟩, h2⟩
theorem DP.two (h : DP w0 w dp rp t u O P) (hm : Mr w0 w rp P t' w') : ∃ P', DP w0 w' dp rp t t' O P' ∧ But P w w' := by
 obtain ⟨P', h1, h2, h3⟩ := hm.far
 exact ⟨P', ⟨h.dk.but h2 h.no h.rk.base, h1, fun k ho hp => h3 k (h.dk.lt k ho) (h.no k ho) hp⟩, h2⟩
end
end
section
namespace Crc
def P : Nat := 3988292384
def stp (r : Nat) : Nat := r / 2 ^^^ (if r % 2 = 1 then P else 0)
def stpN : Nat → Nat → Nat
 | 0, r => r
 | n + 1, r => stpN n (stp r)
def dn (r : Nat) : Nat := stpN 8 r
def byT (r c : Nat) : Nat := dn ((r % 256) ^^^ c) ^^^ (r / 256)
def byB (r c : Nat) : Nat := stpN 8 (r ^^^ c)
def fold (r : Nat) (bs : List Nat) : Nat := bs.foldl byT r
def neg (r : Nat) : Nat := 4294967295 - r
def more (s : Nat) (bs : List Nat) : Nat := neg (fold (neg s) bs)
theorem xor_div (a b : Nat) : (a ^^^ b) / 2 = (a / 2) ^^^ (b / 2) := by
 have := Nat.xor_div_two_pow (a := a) (b := b) (n := 1)
 simpa using this
theorem xor_mod (a b : Nat) : (a ^^^ b) % 2 = (a % 2 + b % 2) % 2 := by
 have := Nat.xor_mod_two_pow (a := a) (b := b) (n := 1)
 have h : (a ^^^ b) % 2 = (a % 2) ^^^ (b % 2) := by simpa using this
 rw [h]
 rcases Nat.mod_two_eq_zero_or_one a with h1 | h1 <;> rcases Nat.mod_two_eq_zero_or_one b with h2 | h2 <;> simp [h1, h2]
theorem xor_lt32 {a b : Nat} (ha : a < 4294967296) (hb : b < 4294967296) : a ^^^ b < 4294967296 := Nat.xor_lt_two_pow (n := 32) ha hb
theorem xor_lt8 {a b : Nat} (ha : a < 256) (hb : b < 256) : a ^^^ b < 256 := Nat.xor_lt_two_pow (n := 8) ha hb
theorem xor4 (a b c d : Nat) : (a ^^^ b) ^^^ (c ^^^ d) = (a ^^^ c) ^^^ (b ^^^ d) := by
 rw [Nat.xor_assoc, Nat.xor_assoc, ← Nat.xor_assoc b c d, Nat.xor_comm b c, Nat.xor_assoc c b d]
theorem stp_xor (a b : Nat) : stp (a ^^^ b) = stp a ^^^ stp b := by
 unfold stp
 rw [xor_div, xor_mod, xor4]
 congr 1
 rcases Nat.mod_two_eq_zero_or_one a with h1 | h1 <;> rcases Nat.mod_two_eq_zero_or_one b with h2 | h2 <;> simp [h1, h2]
theorem stp_lt {r : Nat} (h : r < 4294967296) : stp r < 4294967296 := by
 unfold stp
 refine xor_lt32 (by omega) ?_
 split <;> simp [P]
theorem stpN_xor (n : Nat) : ∀ a b, stpN n (a ^^^ b) = stpN n a ^^^ stpN n b := by
 induction n with
 | zero => intro a b; rfl
 | succ n ih => intro a b; simp only [stpN]; rw [stp_xor, ih]
theorem stpN_lt (n : Nat) : ∀ {r : Nat}, r < 4294967296 → stpN n r < 4294967296 := by
 induction n with
 | zero => intro r h; exact h
 | succ n ih => intro r h; exact ih (stp_lt h)
theorem stpN_even (n : Nat) : ∀ k, stpN n (2 ^ n * k) = k := by
 induction n with
 | zero => intro k; simp [stpN]
 | succ n ih =>
  intro k
  have h : stp (2 ^ (n + 1) * k) = 2 ^ n * k := by
   unfold stp
   have e : 2 ^ (n + 1) * k = 2 * (2 ^ n * k) := by rw [Nat.pow_succ]; simp [Nat.mul_comm, Nat.mul_left_comm]
   rw [e]
   simp
  simp only [stpN]
  rw [h, ih]
theorem dn_lt {r : Nat} (h : r < 4294967296) : dn r < 4294967296 := stpN_lt 8 h
theorem split256 (r : Nat) : r = (r % 256) ^^^ (256 * (r / 256)) := by
 have h1 : (r % 256) ^^^ (256 * (r / 256)) = (r % 256) ||| (256 * (r / 256)) := by
  apply Nat.eq_of_testBit_eq
  intro i
  rw [Nat.testBit_xor, Nat.testBit_or]
  by_cases hi : i < 8
  · have : (256 * (r / 256)).testBit i = false := by
     rw [show (256 : Nat) * (r / 256) = 2 ^ 8 * (r / 256) from rfl, Nat.testBit_two_pow_mul]
     simp; omega
    rw [this]; simp
  have : (r % 256).testBit i = false := Nat.testBit_lt_two_pow (Nat.lt_of_lt_of_le (Nat.mod_lt _ (by decide)) (Nat.pow_le_pow_right (n := 2) (by decide) (show 8 ≤ i by omega)))
  rw [this]; simp
 have h2 : (r % 256) ||| (256 * (r / 256)) = 256 * (r / 256) + r % 256 := by
  have := Nat.two_pow_add_eq_or_of_lt (i := 8) (b := r % 256) (by have := Nat.mod_lt r (show 0 < 256 by decide); simpa using this) (r / 256)
  simp only [show (2 : Nat) ^ 8 = 256 from rfl] at this
  rw [Nat.or_comm]; exact this.symm
 rw [h1, h2]; omega
theorem byT_eq (r c : Nat) : byT r c = byB r c := by
 unfold byT byB
 have e : r ^^^ c = ((r % 256) ^^^ c) ^^^ (2 ^ 8 * (r / 256)) := by
  conv => lhs; rw [split256 r]
  rw [Nat.xor_assoc, Nat.xor_comm (256 * (r / 256)) c, ← Nat.xor_assoc]
 rw [e, stpN_xor, stpN_even]; rfl
theorem byT_lt {r c : Nat} (hr : r < 4294967296) (hc : c < 256) : byT r c < 4294967296 := by
 rw [byT_eq]; exact stpN_lt 8 (xor_lt32 hr (by omega))
theorem fold_lt : ∀ {bs : List Nat} {r : Nat}, r < 4294967296 → (∀ c ∈ bs, c < 256) → fold r bs < 4294967296 := by
 intro bs
 induction bs with
 | nil => intro r h _; exact h
 | cons c bs ih => intro r h hc; exact ih (byT_lt h (hc c (by simp))) (fun x hx => hc x (by simp [hx]))
theorem fold_snoc (r : Nat) (a : List Nat) (c : Nat) : fold r (a ++ [c]) = byT (fold r a) c := by simp [fold]
theorem neg_lt (r : Nat) : neg r < 4294967296 := by unfold neg; omega
theorem more_lt (s : Nat) (bs : List Nat) : more s bs < 4294967296 := neg_lt _
theorem neg_xor {r : Nat} (h : r < 4294967296) : neg r = r ^^^ 4294967295 := by
 unfold neg
 have h1 : (2 ^ 32 - 1) - r = r ^^^ (2 ^ 32 - 1) := by
  apply Nat.eq_of_testBit_eq
  intro i
  rw [Nat.testBit_xor, Nat.testBit_two_pow_sub_one, Nat.sub_sub, Nat.add_comm 1 r, ]
  rw [Nat.testBit_two_pow_sub_succ (by simpa using h)]
  by_cases hi : i < 32
  · simp [hi]
  have : r.testBit i = false := Nat.testBit_lt_two_pow (Nat.lt_of_lt_of_le h (Nat.pow_le_pow_right (n := 2) (by decide) (show 32 ≤ i by omega)))
  simp [hi, this]
 simpa using h1
theorem e8 (x c : Nat) : stpN 8 x ^^^ c = stpN 8 (x ^^^ 256 * c) := by
 have h := stpN_even 8 c
 simp only [show (2 : Nat) ^ 8 = 256 from rfl] at h
 rw [stpN_xor, h]
def refFold (r : Nat) (bs : List Nat) : Nat := bs.foldl byB r
theorem refFold_eq (r : Nat) (bs : List Nat) : refFold r bs = fold r bs := by
 have : byB = byT := by funext a c; exact (byT_eq a c).symm
 unfold refFold fold; rw [this]
end Crc
end
section
namespace Frm
open Crc
def be : Nat → Nat → List Nat
 | 0, _ => []
 | k + 1, n => n / 256 ^ k % 256 :: be k n
def val (bs : List Nat) : Nat := bs.foldl (fun v c => v * 256 + c) 0
theorem be_len (k n : Nat) : (be k n).length = k := by
 induction k with
 | zero => rfl
 | succ k ih => simp [be, ih]
theorem be_byte (k n : Nat) : ∀ c ∈ be k n, c < 256 := by
 induction k with
 | zero => intro c hc; cases hc
 | succ k ih =>
  intro c hc
  rcases List.mem_cons.1 hc with rfl | h
  · exact Nat.mod_lt _ (by decide)
  exact ih c h
theorem val_from (bs : List Nat) : ∀ v, bs.foldl (fun v c => v * 256 + c) v = v * 256 ^ bs.length + val bs := by
 induction bs with
 | nil => intro v; simp [val]
 | cons c bs ih =>
  intro v
  unfold val
  simp only [List.foldl_cons, List.length_cons]
  rw [ih, ih (0 * 256 + c), Nat.pow_succ, Nat.zero_mul, Nat.zero_add, Nat.add_mul, Nat.add_assoc, Nat.mul_assoc, Nat.mul_comm 256]
theorem val_cons (c : Nat) (bs : List Nat) : val (c :: bs) = c * 256 ^ bs.length + val bs := by
 have := val_from bs c
 unfold val at *
 simpa using this
theorem val_snoc (bs : List Nat) (c : Nat) : val (bs ++ [c]) = val bs * 256 + c := by simp [val]
theorem val_lt : ∀ (bs : List Nat), (∀ c ∈ bs, c < 256) → val bs < 256 ^ bs.length := by
 intro bs
 induction bs with
 | nil => intro _; simp [val]
 | cons c bs ih =>
  intro h
  have h1 := ih (fun x hx => h x (by simp [hx]))
  have h2 := h c (by simp)
  rw [val_cons, List.length_cons, Nat.pow_succ]
  have h3 : c * 256 ^ bs.length ≤ 255 * 256 ^ bs.length := Nat.mul_le_mul_right _ (by omega)
  omega
structure Fr where
 ty : Int
 seq : Int
 body : List Nat
deriving DecidableEq
def Fr.zero : Fr := ⟨0, 0, []⟩
def Fr.right (f : Fr) : Prop := 1 ≤ f.ty ∧ f.ty ≤ 15 ∧ 0 ≤ f.seq ∧ f.seq ≤ 1073741824 ∧ f.body.length ≤ 1800
instance (f : Fr) : Decidable f.right := by unfold Fr.right; infer_instance
def hd (f : Fr) : List Nat := be 2 f.body.length ++ be 1 f.ty.toNat ++ be 4 f.seq.toNat
def sm (f : Fr) : List Nat := hd f ++ f.body
def raw (f : Fr) : List Nat := sm f ++ be 4 (more 0 (sm f))
def put (f : Fr) : List Nat := if f.right then raw f else []
theorem hd_len (f : Fr) : (hd f).length = 7 := by simp [hd, be_len]
theorem sm_len (f : Fr) : (sm f).length = f.body.length + 7 := by simp [sm, hd_len]; omega
theorem raw_len (f : Fr) : (raw f).length = f.body.length + 11 := by simp [raw, sm_len, be_len]
theorem hd_byte (f : Fr) : ∀ c ∈ hd f, c < 256 := by
 intro c hc
 rcases List.mem_append.1 hc with h | h
 · rcases List.mem_append.1 h with h | h
   · exact be_byte _ _ c h
   exact be_byte _ _ c h
 exact be_byte _ _ c h
theorem sm_byte (f : Fr) (hb : ∀ c ∈ f.body, c < 256) : ∀ c ∈ sm f, c < 256 := by
 intro c hc
 rcases List.mem_append.1 hc with h | h
 · exact hd_byte f c h
 exact hb c h
theorem raw_byte (f : Fr) (hb : ∀ c ∈ f.body, c < 256) : ∀ c ∈ raw f, c < 256 := by
 intro c hc
 rcases List.mem_append.1 hc with h | h
 · exact sm_byte f hb c h
 exact be_byte _ _ c h
def szOf (bs : List Nat) : Nat := val (bs.take 2)
def frOf (bs : List Nat) : Fr := ⟨((bs.getD 2 0 : Nat) : Int), ((val ((bs.take 7).drop 3) : Nat) : Int), (bs.take (szOf bs + 7)).drop 7⟩
def get (bs : List Nat) : Fr × Nat × Nat :=
 if bs.length < 2 then (Fr.zero, 0, 13)
 else if 1800 < szOf bs then (Fr.zero, 0, 12)
 else if bs.length < szOf bs + 11 then (Fr.zero, 0, 13)
 else if val ((bs.take (szOf bs + 11)).drop (szOf bs + 7)) ≠ more 0 (bs.take (szOf bs + 7)) then (Fr.zero, 0, 14)
 else if ¬ (frOf bs).right then (Fr.zero, 0, 12)
 else (frOf bs, szOf bs + 11, 0)
theorem get_ok (bs : List Nat) (h : (get bs).2.2 = 0) :
 (frOf bs).right ∧ get bs = (frOf bs, szOf bs + 11, 0) ∧ szOf bs + 11 ≤ bs.length ∧ val ((bs.take (szOf bs + 11)).drop (szOf bs + 7)) = more 0 (bs.take (szOf bs + 7)) ∧ szOf bs ≤ 1800 := by
 unfold get at *
 split at h
 · simp at h
 split at h
 · simp at h
 split at h
 · simp at h
 split at h
 · simp at h
 split at h
 · simp at h
 rename_i h1 h2 h3 h4 h5
 have h5' : (frOf bs).right := by simpa using h5
 have h4' : val ((bs.take (szOf bs + 11)).drop (szOf bs + 7)) = more 0 (bs.take (szOf bs + 7)) := by simpa using h4
 refine ⟨h5', ?_, by omega, h4', by omega⟩
 rw [if_neg h1, if_neg h2, if_neg h3, if_neg h4, if_neg h5]
def scanN : Nat → List Nat → Int → List Fr × Nat
 | 0, _, _ => ([], 0)
 | k + 1, bs, first => if (get bs).2.2 = 0 ∧ (get bs).1.seq = first then
  ((get bs).1 :: (scanN k (bs.drop (get bs).2.1) (first + 1)).1, (get bs).2.1 + (scanN k (bs.drop (get bs).2.1) (first + 1)).2) else ([], 0)
def scan (bs : List Nat) (first : Int) : List Fr × Nat := scanN (bs.length + 1) bs first
theorem scanN_same : ∀ (k j : Nat) (bs : List Nat) (first : Int), bs.length < k → bs.length < j → scanN k bs first = scanN j bs first := by
 intro k
 induction k with
 | zero => intro j bs first h; omega
 | succ k ih =>
  intro j bs first hk hj
  match j, hj with
  | j + 1, hj =>
   simp only [scanN]
   by_cases h : (get bs).2.2 = 0 ∧ (get bs).1.seq = first
   · obtain ⟨_, hg, hl, _, _⟩ := get_ok bs h.1
     have hn : (get bs).2.1 = szOf bs + 11 := by rw [hg]
     have e := ih j (bs.drop (get bs).2.1) (first + 1) (by rw [List.length_drop]; omega) (by rw [List.length_drop]; omega)
     rw [e]
   rw [if_neg h, if_neg h]
theorem scan_step (bs : List Nat) (first : Int) (h0 : (get bs).2.2 = 0) (h1 : (get bs).1.seq = first) :
 scan bs first = ((get bs).1 :: (scan (bs.drop (get bs).2.1) (first + 1)).1, (get bs).2.1 + (scan (bs.drop (get bs).2.1) (first + 1)).2) := by
 obtain ⟨_, hg, hl, _, _⟩ := get_ok bs h0
 have hn : (get bs).2.1 = szOf bs + 11 := by rw [hg]
 show scanN (bs.length + 1) bs first = _
 simp only [scanN]
 rw [if_pos ⟨h0, h1⟩]
 have e : scanN bs.length (bs.drop (get bs).2.1) (first + 1) = scan (bs.drop (get bs).2.1) (first + 1) :=
  scanN_same _ _ _ _ (by rw [List.length_drop]; omega) (by omega)
 rw [e]
theorem scan_stop (bs : List Nat) (first : Int) (h : ¬ ((get bs).2.2 = 0 ∧ (get bs).1.seq = first)) : scan bs first = ([], 0) := by
 show scanN (bs.length + 1) bs first = _
 simp only [scanN]
 rw [if_neg h]
theorem scan_le : ∀ (k : Nat) (bs : List Nat) (first : Int), bs.length < k → (scan bs first).2 ≤ bs.length := by
 intro k
 induction k with
 | zero => intro bs first h; omega
 | succ k ih =>
  intro bs first hk
  by_cases h : (get bs).2.2 = 0 ∧ (get bs).1.seq = first
  · obtain ⟨_, hg, hl, _, _⟩ := get_ok bs h.1
    have hn : (get bs).2.1 = szOf bs + 11 := by rw [hg]
    rw [scan_step bs first h.1 h.2]
    have e := ih (bs.drop (get bs).2.1) (first + 1) (by rw [List.length_drop]; omega)
    rw [List.length_drop] at e
    simp only
    omega
  rw [scan_stop bs first h]; simp
end Frm
end
section
section
open Go.RowKit
open Crc
theorem and_one (r : Nat) (h : r < 4294967296) : bits .and .u32 (r : Int) 1 = ((r % 2 : Nat) : Int) := by
 have := u32_and_nat r 1 h (by decide)
 rw [Nat.and_one_is_mod] at this
 exact this
theorem xor_poly (r : Nat) (h : r < 4294967296) : bits .xor .u32 (r : Int) 3988292384 = ((r ^^^ P : Nat) : Int) :=
 u32_xor_nat r 3988292384 h (by decide)
theorem stp_odd (x : Nat) (h : x < 4294967296) (ho : (bits .and .u32 (x : Int) 1 == 1) = true) :
 bits .xor .u32 ((x : Int) / 2) 3988292384 = ((stp x : Nat) : Int) := by
 rw [and_one x h] at ho
 have h1 : x % 2 = 1 := by have := beq_iff_eq.1 ho; omega
 have e : (x : Int) / 2 = ((x / 2 : Nat) : Int) := by omega
 rw [e, xor_poly _ (by omega)]
 unfold stp; rw [if_pos h1]
theorem stp_even (x : Nat) (h : x < 4294967296) (ho : (bits .and .u32 (x : Int) 1 == 1) = false) :
 (x : Int) / 2 = ((stp x : Nat) : Int) := by
 rw [and_one x h] at ho
 have h1 : ¬ x % 2 = 1 := by have := beq_eq_false_iff_ne.1 ho; omega
 unfold stp; rw [if_neg h1, Nat.xor_zero]; omega
theorem stpN_go (k x : Nat) (hk : k < 8) : stpN (8 - (k + 1)) (stp x) = stpN (8 - k) x := by
 obtain ⟨m, hm⟩ : ∃ m, 8 - k = m + 1 := ⟨7 - k, by omega⟩
 rw [hm, show 8 - (k + 1) = m from by omega]; rfl
theorem down_any (r : Nat) (h : r < 4294967296) (w : World) :
 Calls Tryz.prog 221 #[.int .u32 (r : Int)] w fun e w' => e = .returned (.int .u32 ((dn r : Nat) : Int)) ∧ w = w' := by
 go_enter Tryz.func221, Tryz.ntmps221
 go_wp2
 go_loop [0, 3, 4] (fun a _ i => ∃ k x : Nat, k ≤ 8 ∧ x < 4294967296 ∧ a = .int .u32 (x : Int) ∧ i = .int .i64 (k : Int) ∧ stpN (8 - k) x = dn r) (fun _ _ i => 8 - (intOf i).toNat)
 case atStart => exact ⟨0, r, by omega, h, rfl, rfl, rfl⟩
 case round =>
  obtain ⟨k, x, hk, hx, rfl, rfl, hs⟩ := hrel
  have H := Qh hs
  clear hs
  go_wp2
  · have ho : (bits .and .u32 (x : Int) 1 == 1) = true := by assumption
    have hlt : (k : Int) < 8 := by assumption
    exact ⟨⟨k + 1, stp x, by omega, stp_lt hx, val_u32 (stp_odd x hx ho), by go_num, by rw [stpN_go k x (by omega)]; exact H.out⟩, by simp [intOf]; omega⟩
  · have ho : (bits .and .u32 (x : Int) 1 == 1) = false := by assumption
    have hlt : (k : Int) < 8 := by assumption
    exact ⟨⟨k + 1, stp x, by omega, stp_lt hx, val_u32 (stp_even x hx ho), by go_num, by rw [stpN_go k x (by omega)]; exact H.out⟩, by simp [intOf]; omega⟩
  have hge : (8 : Int) ≤ (k : Int) := by assumption
  have e : x = dn r := by have := H.out; rw [show 8 - k = 0 from by omega] at this; exact this
  go_ret
  exact ⟨ret_u32 (by rw [e]), rfl⟩
end
section
open Go.RowKit
open Crc
def tabAt (k : Nat) : List Value := (List.range 256).map fun i => .int .u32 (((if i < k then dn i else 0 : Nat)) : Int)
def tabZero : Array Value := (tabAt 0).toArray
theorem tabAt_len (k : Nat) : (tabAt k).length = 256 := by simp [tabAt]
theorem tabAt_get (k i : Nat) (h : i < 256) : (tabAt k)[i]? = some (.int .u32 (((if i < k then dn i else 0 : Nat)) : Int)) := by simp [tabAt, h]
theorem tabAt_set (k : Nat) (h : k < 256) : (tabAt k).set k (.int .u32 ((dn k : Nat) : Int)) = tabAt (k + 1) := by
 apply List.ext_getElem?
 intro i
 by_cases hi : i < 256
 · rw [List.getElem?_set, tabAt_get (k + 1) i hi, tabAt_get k i hi, tabAt_len]
   by_cases e : k = i
   · subst e; simp [h]
   rw [if_neg e]
   by_cases hlt : i < k
   · rw [if_pos hlt, if_pos (by omega)]
   rw [if_neg hlt, if_neg (by omega)]
 rw [List.getElem?_eq_none (by rw [List.length_set, tabAt_len]; omega), List.getElem?_eq_none (by rw [tabAt_len]; omega)]
theorem tabAt_one (k : Nat) : ∀ v ∈ tabAt k, v.oneCell' = true := by
 intro v hv
 obtain ⟨i, _, rfl⟩ := List.mem_map.1 hv
 rfl
theorem table_any (w : World) :
 Calls Tryz.prog 204 #[] w fun e w' => e = .returned (.agg (tabAt 256).toArray) ∧ Below w.heap.size w w' := by
 have hz : ∀ w, (zeroValue 201).run Tryz.prog w = .ok (.agg tabZero) w := fun w => by kernel_rfl
 go_enter Tryz.func204, Tryz.ntmps204
 go_wp2_with fail
 go_loopw [2, 3] (fun _ i wr => ∃ k : Nat, k ≤ 256 ∧ i = .int .i64 (k : Int) ∧ wr.heap[w.heap.size + 1]? = some (.cells (tabAt k).toArray 201 (0, 0)) ∧ wr.heap[w.heap.size]? = some (.cells tabZero 201 (0, 0)) ∧ Below w.heap.size w wr)
  (fun _ i _ => 256 - (intOf i).toNat)
 case atStart =>
  refine ⟨0, by omega, rfl, heap_alloc2_new _ _ _, heap_alloc2_old _ _ _, ?_⟩
  exact (Qb.alloc Qn _).alloc (by simp) _
 case round =>
  obtain ⟨k, hk, rfl, ht, hr, hb⟩ := hrel
  by_cases hlt : k < 256
  · have hcell : wr.cell? ⟨w.heap.size + 1, k, none⟩ = some (.int .u32 0) := by
     rw [cell_of_row wr _ k _ _ _ ht, List.getElem?_toArray, tabAt_get k k hlt, if_neg (by omega)]; rfl
    have hfr : wr.frozen? ⟨w.heap.size + 1, k, none⟩ = false := frozen_of_row wr _ k _ _ ht
    have Ht := Qh ht
    have Hr := Qh hr
    clear ht hr
    go_wp2_with fail
    refine (down_any k (by omega) _).mono ?_
    rintro e w' ⟨rfl, rfl⟩
    go_wp2
    refine ⟨⟨k + 1, by omega, by go_num, ?_, ?_, ?_⟩, by simp [intOf]; omega⟩
    · have h1 := heap_setCell_same wr (w.heap.size + 1) k _ _ (.int .u32 ((dn k : Nat) : Int)) Ht.out
      rw [List.setIfInBounds_toArray, tabAt_set k hlt] at h1
      exact h1
    · rw [heap_setCell_other _ _ _ _ (by simp)]
      exact Hr.out
    exact hb.setCell (by simp) _
  have hk' : k = 256 := by omega
  subst hk'
  have Ht := Qh ht
  have Hr := Qh hr
  clear ht hr
  go_wp2_with (first
   | (refine wpList_load_row (by rfl) 201 (.tmp 1) (by rfl) (w.heap.size + 1) (by rfl) 201 (tabAt 256).toArray (0, 0) _ Ht.out Tryz.underlying201 (by rfl) (by kernel_rfl) ?_)
   | (refine wpList_store_mid (by rfl) 201 (.tmp 0) (.tmp 12) (by rfl) w.heap.size 0 (tabAt 256).toArray (by rfl) (by rfl) (there_of_block Hr.out (by simp [tabZero, tabAt_len])) (by kernel_rfl) (all_oneCell_toArray (tabAt_one 256)) ?_))
  have hw := heap_setCells_whole (cs := tabAt 0) (tabAt 256) (by rw [tabAt_len, tabAt_len]) Hr.out
  refine bodyPost_ret (v := .agg (tabAt 256).toArray) ?_ (by rfl) ⟨rfl, below_setCells' _ Qn _ _ hb⟩
  exact results_cell_row (by rfl) _ _ w.heap.size _ (tabAt 256).toArray _ _ (by rfl) hw Tryz.underlying201 (by rfl) (by kernel_rfl)
end
section
open Go.RowKit
open Crc
def tabCells : Array Value := (tabAt 256).toArray
theorem fold_any (r : Nat) (hr : r < 4294967296) (a : Option Addr) (len cap : Nat) (bs : List Nat) (w : World) (hs : Sl w w.heap.size a len cap bs) :
 Calls Tryz.prog 203 #[.agg tabCells, .int .u32 (r : Int), .slice a len cap] w fun e w' => e = .returned (.int .u32 ((fold r bs : Nat) : Int)) ∧ Below w.heap.size w w' := by
 have hle := hs.le
 have hmx := hs.max
 unfold maxLen at hmx
 go_enter Tryz.func203, Tryz.ntmps203
 go_wp2_with fail
 go_loop [1, 8, 11] (fun x _ i => ∃ k y : Nat, k ≤ len ∧ y < 4294967296 ∧ i = .int .i64 (k : Int) ∧ x = .int .u32 (y : Int) ∧ y = fold r (bs.take k)) (fun _ _ i => len - (intOf i).toNat)
 case atStart => exact ⟨0, r, by omega, hr, rfl, rfl, by simp [fold]⟩
 case round =>
  obtain ⟨k, y, hk, hy, rfl, rfl, he⟩ := hrel
  have He := Qh he
  clear he
  by_cases hlt : k < len
  · obtain ⟨b, o, rfl, hb, hc⟩ := hs.at_ (by omega)
    have hck : (w.alloc (.cells tabCells 201)).cell? ⟨b, o + k, none⟩ = some (.int .u8 ((bs.getD k 0 : Nat) : Int)) := by
     rw [World.cell?_alloc_past _ _ _ hb]; exact hc k hlt
    have hcb := hs.lt hlt
    have Hf : Hid (byT y (bs.getD k 0) = fold r (bs.take (k + 1))) := by
     show _ = _
     rw [List.take_succ_eq_append_getElem (by have := hs.length; omega), fold_snoc, ← He.out, List.getD_eq_getElem?_getD, List.getElem?_eq_getElem (by have := hs.length; omega)]
     rfl
    generalize bs.getD k 0 = c at hck hcb Hf
    have hm := xor_lt8 (a := y % 256) (b := c) (by omega) hcb
    have hx : bits .xor .u8 ((y : Int) % 256) (c : Int) = (((y % 256 ^^^ c : Nat)) : Int) := by
     have := u8_xor_nat (y % 256) c (by omega) hcb
     rw [← this]; rfl
    have hy' : byT y c = dn (y % 256 ^^^ c) ^^^ (y / 256) := rfl
    generalize y % 256 ^^^ c = m at hm hx hy'
    have htab : tabCells[m]? = some (.int .u32 ((dn m : Nat) : Int)) := by
     show (tabAt 256).toArray[m]? = _
     rw [List.getElem?_toArray, tabAt_get 256 m hm, if_pos hm]
    have hdl : dn m < 4294967296 := dn_lt (by omega)
    have hz : bits .xor .u32 ((dn m : Nat) : Int) ((y : Int) / 256) = ((byT y c : Nat) : Int) := by
     rw [hy']
     have := u32_xor_nat (dn m) (y / 256) hdl (by omega)
     rw [← this]; rfl
    have hbl := byT_lt hy hcb
    clear hy'
    generalize dn m = t at htab hz hdl
    generalize byT y c = y' at hz hbl Hf
    go_wp2
    exact ⟨⟨k + 1, y', by omega, hbl, by go_num, rfl, Hf.out⟩, by simp [intOf]; omega⟩
  go_wp2
  go_ret
  have e : y = fold r bs := by rw [He.out, List.take_of_length_le (by have := hs.length; omega)]
  exact ⟨ret_u32 (by rw [e]), Qb.alloc Qn _⟩
theorem not_u32 (s : Nat) (h : s < 4294967296) : bits .xor .u32 IntKind.u32.max (s : Int) = ((neg s : Nat) : Int) := by
 have := u32_xor_nat 4294967295 s (by decide) h
 rw [Nat.xor_comm, ← neg_xor h] at this
 exact this
theorem more_any (s : Nat) (h : s < 4294967296) (a : Option Addr) (len cap : Nat) (bs : List Nat) (w : World) (hs : Sl w w.heap.size a len cap bs) :
 Calls Tryz.prog 171 #[.int .u32 (s : Int), .slice a len cap] w fun e w' => e = .returned (.int .u32 ((more s bs : Nat) : Int)) ∧ Below w.heap.size w w' := by
 have hn := not_u32 s h
 have hnl := neg_lt s
 have Hm : Hid (more s bs = neg (fold (neg s) bs)) := rfl
 generalize neg s = n at hn hnl Hm
 have hfl := fold_lt hnl hs.byte
 have hn2 := not_u32 _ hfl
 generalize hf : fold n bs = f at hn2 hfl Hm
 have Hf := Qh hf
 clear hf
 go_enter Tryz.func171, Tryz.ntmps171
 go_wp2_with fail
 refine (table_any _).mono ?_
 rintro e w1 ⟨rfl, hb1⟩
 go_wp2_with fail
 refine (fold_any n hnl a len cap bs _ (hs.below hb1 Qn |>.more hb1.size)).mono ?_
 rintro e w2 ⟨rfl, hb2⟩
 rw [Hf.out]
 go_wp2
 go_ret
 exact ⟨ret_u32 (by rw [Hm.out]), hb1.trans (hb2.mono hb1.size)⟩
theorem of_any (a : Option Addr) (len cap : Nat) (bs : List Nat) (w : World) (hs : Sl w w.heap.size a len cap bs) :
 Calls Tryz.prog 123 #[.slice a len cap] w fun e w' => e = .returned (.int .u32 ((more 0 bs : Nat) : Int)) ∧ Below w.heap.size w w' := by
 go_enter Tryz.func123, Tryz.ntmps123
 go_wp2_with fail
 refine (more_any 0 (by decide) a len cap bs _ hs).mono ?_
 rintro e w1 ⟨rfl, hb1⟩
 go_wp2
 go_ret
 exact ⟨rfl, hb1⟩
end
section
open Go.RowKit
open Crc
theorem of_from {B : Nat} {w0 : World} {a : Option Addr} {len cap : Nat} {bs : List Nat} (hB : B ≤ w0.heap.size) (hs : Sl w0 B a len cap bs) (w : World) (hb : Below B w0 w) :
 Calls Tryz.prog 123 #[.slice a len cap] w fun e w' => e = .returned (.int .u32 ((more 0 bs : Nat) : Int)) ∧ Below B w0 w' :=
 (of_any a len cap bs w ((hs.below hb Qn).more (Nat.le_trans hB hb.size))).mono fun _ _ ⟨he, h2⟩ => ⟨he, hb.trans (h2.mono (Nat.le_trans hB hb.size))⟩
end
end
section
section
open Go.RowKit Go.Sort
open Crc Frm
attribute [local go_sem] Oper.semAt_some
def upL (a : Int) : List Int → Bool
 | [] => true
 | n :: l => decide (a < n) && (decide (n ≤ 1073741824) && upL n l)
def mOk (l : List Int) : Bool := decide (1 ≤ l.length) && (decide (l.length ≤ 40) && upL (-1) l)
theorem upL_no {z x : Int} {l : List Int} (h : ¬ (z < x ∧ x ≤ 1073741824)) : upL z (x :: l) = false := by
 simp only [upL]
 by_cases h1 : z < x
 · have h2 : ¬ x ≤ 1073741824 := fun h2 => h ⟨h1, h2⟩
   simp [h2]
 simp [h1]
theorem upL_yes {z x : Int} {l : List Int} (h1 : z < x) (h2 : x ≤ 1073741824) : upL z (x :: l) = upL x l := by simp [upL, h1, h2]
theorem mright_any (l : List Int) (a : Option Addr) (n c : Nat) (w : World) (hr : Row w w.heap.size a n c 1 (intsC l)) (hn : l.length = n) :
 Calls Tryz.prog 131 #[.slice a n c] w fun e w' => e = .returned (.bool (mOk l)) ∧ w = w' := by
 have hcm := hr.max
 have hle := hr.le
 unfold maxLen at hcm
 have HL : Hid (mOk l = (decide (1 ≤ n) && (decide (n ≤ 40) && upL (-1) l))) := by show _ = _; unfold mOk; rw [hn]
 have HR := Qh (Qa hr hn)
 clear hr hn
 go_enter Tryz.func131, Tryz.ntmps131
 by_cases h1 : 1 ≤ n
 · by_cases h2 : n ≤ 40
   · go_wp2_with fail
     go_loopw [3, 5, 16] (fun z _ i wr => ∃ (k : Nat) (x : Int), k ≤ n ∧ i = .int .i64 (k : Int) ∧ z = .int .i64 x ∧ upL (-1) l = upL x (l.drop k) ∧ wr = w) (fun _ _ i _ => n - (intOf i).toNat)
     case atStart => exact ⟨0, -1, Nat.zero_le _, rfl, rfl, rfl, rfl⟩
     case round =>
      obtain ⟨k, z, hk, rfl, rfl, hu, rfl⟩ := hrel
      by_cases hlt : k < n
      · obtain ⟨b, o, rfl, hb, hc⟩ := HR.out.1.at_ (by omega)
        have c0 := hc k (by omega)
        simp only [intsC, Nat.mul_one] at c0
        have hlk : k < l.length := by have := HR.out.2; omega
        have hd : l.drop k = l.getD k 0 :: l.drop (k + 1) := by rw [List.drop_eq_getElem_cons hlk, List.getD_eq_getElem?_getD, List.getElem?_eq_getElem hlk]; rfl
        rw [hd] at hu
        generalize l.getD k 0 = x at *
        have HU := Qh hu
        clear hu hd hc hlk
        by_cases hx1 : z < x
        · by_cases hx2 : x ≤ 1073741824
          · go_wp2
            go_roundw
            case rel => exact ⟨k + 1, x, by omega, by go_num, rfl, HU.out.trans (upL_yes hx1 hx2), by trivial⟩
            case measure => simp [intOf]; omega
          go_wp2
          go_ret
          exact ⟨ret_bool (by rw [HL.out, HU.out, upL_no (by omega)]; simp), rfl⟩
        go_wp2
        go_ret
        exact ⟨ret_bool (by rw [HL.out, HU.out, upL_no (by omega)]; simp), rfl⟩
      have HU := Qh hu
      clear hu
      go_wp2
      go_ret
      refine ⟨ret_bool ?_, rfl⟩
      rw [HL.out, HU.out, List.drop_of_length_le (by have := HR.out.2; omega)]
      simp [upL, h1, h2]
   go_wp2
   go_ret
   exact ⟨ret_bool (by rw [HL.out]; simp [h2]), rfl⟩
 go_wp2
 go_ret
 exact ⟨ret_bool (by rw [HL.out]; simp [h1]), rfl⟩
theorem msize_any (n : Nat) (hn : n ≤ 1000000) (w : World) :
 Calls Tryz.prog 184 #[.int .i64 (n : Int)] w fun e w' => e = .returned (.int .i64 ((5 + 4 * n : Nat) : Int)) ∧ w = w' := by
 have w1 : IntKind.i64.wrap ((n : Int) * 4) = (n : Int) * 4 := by rw [IntKind.wrap_i64]; omega
 have w2 : IntKind.i64.wrap (1 + (n : Int) * 4) = 1 + (n : Int) * 4 := by rw [IntKind.wrap_i64]; omega
 have w3 : IntKind.i64.wrap (1 + (n : Int) * 4 + 4) = 1 + (n : Int) * 4 + 4 := by rw [IntKind.wrap_i64]; omega
 go_enter Tryz.func184, Tryz.ntmps184
 go_wp2
 go_ret
 exact ⟨ret_i64 (by omega), rfl⟩
theorem or_sum (k a b : Nat) (A B C : Nat) (hA : A = 2 ^ k * a) (hB : B = b) (hb : b < 2 ^ k) (hA2 : A < 4294967296) (hB2 : B < 4294967296) (hC : C = A + B) : bits .or .u32 (A : Int) (B : Int) = (C : Int) := by
 subst hB hC
 rw [u32_or_nat A B hA2 hB2, hA, ← Nat.two_pow_add_eq_or_of_lt hb a]
theorem be4 (y : Nat) : be 4 y = [y / 16777216 % 256, y / 65536 % 256, y / 256 % 256, y % 256] := by simp [be]
theorem mwrite_any (base : Nat) (v : Value) (bs : List Nat) (y : Nat) (w : World) (hown : OwnB w base 5 v bs) (hbase : base ≤ w.heap.size) (hy : y < 4294967296) (hl : bs.length ≤ 1000000) :
 Calls Tryz.prog 185 #[v, .int .u32 (y : Int)] w fun e w' => ∃ v', e = .returned v' ∧ OwnB w' base 5 v' (bs ++ be 4 y) ∧ w.grownBy w' v.ownBlock ∧ (v'.ownBlock = v.ownBlock ∨ ∃ b, v'.ownBlock = some b ∧ w.heap.size ≤ b) := by
 have y0 : (y : Int) / 16777216 = ((y / 16777216 % 256 : Nat) : Int) := by omega
 have y1 : (y : Int) / 65536 % 256 = ((y / 65536 % 256 : Nat) : Int) := by omega
 have y2 : (y : Int) / 256 % 256 = ((y / 256 % 256 : Nat) : Int) := by omega
 have y3 : (y : Int) % 256 = ((y % 256 : Nat) : Int) := by omega
 rw [be4]
 have l0 : y / 16777216 % 256 < 256 := Nat.mod_lt _ (by decide)
 have l1 : y / 65536 % 256 < 256 := Nat.mod_lt _ (by decide)
 have l2 : y / 256 % 256 < 256 := Nat.mod_lt _ (by decide)
 have l3 : y % 256 < 256 := Nat.mod_lt _ (by decide)
 generalize y / 16777216 % 256 = b0 at *
 generalize y / 65536 % 256 = b1 at *
 generalize y / 256 % 256 = b2 at *
 generalize y % 256 = b3 at *
 have HS := Qh (lit_sl w [b0, b1, b2, b3] (by intro c hc; simp at hc; omega) (by simp [maxLen]))
 have HO := Qh hown
 clear hown
 go_enter Tryz.func185, Tryz.ntmps185
 go_wp2_with (first
  | (at_builtin; refine wpList_append_sl rfl (.tmp 5) (.tmp 17) 38 rfl base _ Tryz.underlying38 info_u8 v bs rfl (HO.out.alloc _) _ (some ⟨w.heap.size, 0, none⟩) 4 4 [b0, b1, b2, b3] rfl HS.out (by omega) (by simp; omega) ?_; intro v1 w3 hown1 hg1 hat1)
  | fail)
 have H3 := Qh (Qa hown1 (Qa hg1 hat1))
 clear hown1 hg1 hat1
 go_wp2
 go_ret
 refine ⟨v1, rfl, H3.out.1, ?_, ?_⟩
 · have := (World.grownBy_alloc w (.cells #[.int .u8 (b0 : Int), .int .u8 (b1 : Int), .int .u8 (b2 : Int), .int .u8 (b3 : Int)] 5) v.ownBlock).andThen H3.out.2.1 (fun q hq => .inr hq)
   exact this
 rcases H3.out.2.2 with h | h
 · exact .inl h
 exact .inr ⟨_, h, by simp⟩
theorem mread_any (a : Option Addr) (len cap : Nat) (bs : List Nat) (w : World) (hs : Sl w w.heap.size a len cap bs) (h4 : 4 ≤ len) :
 Calls Tryz.prog 186 #[.slice a len cap] w fun e w' => e = .returned (.int .u32 ((val (bs.take 4) : Nat) : Int)) ∧ Below w.heap.size w w' := by
 obtain ⟨b, o, rfl, hb, hc⟩ := hs.at_ (by omega)
 have hbl := hs.length
 have c0 := hc 0 (by omega)
 have c1 := hc 1 (by omega)
 have c2 := hc 2 (by omega)
 have c3 := hc 3 (by omega)
 have l0 : bs.getD 0 0 < 256 := by rw [List.getD_eq_getElem?_getD, List.getElem?_eq_getElem (by omega)]; exact hs.byte _ (List.getElem_mem _)
 have l1 : bs.getD 1 0 < 256 := by rw [List.getD_eq_getElem?_getD, List.getElem?_eq_getElem (by omega)]; exact hs.byte _ (List.getElem_mem _)
 have l2 : bs.getD 2 0 < 256 := by rw [List.getD_eq_getElem?_getD, List.getElem?_eq_getElem (by omega)]; exact hs.byte _ (List.getElem_mem _)
 have l3 : bs.getD 3 0 < 256 := by rw [List.getD_eq_getElem?_getD, List.getElem?_eq_getElem (by omega)]; exact hs.byte _ (List.getElem_mem _)
 have hv : Hid (val (bs.take 4) = bs.getD 0 0 * 16777216 + bs.getD 1 0 * 65536 + bs.getD 2 0 * 256 + bs.getD 3 0) := by
  show _ = _
  match bs, (show 4 ≤ bs.length by omega) with
  | x0 :: x1 :: x2 :: x3 :: t, _ => simp [val]; omega
 generalize bs.getD 0 0 = b0 at *
 generalize bs.getD 1 0 = b1 at *
 generalize bs.getD 2 0 = b2 at *
 generalize bs.getD 3 0 = b3 at *
 have n0 : 0 < len := by omega
 have n1 : (1 : Int) < (len : Int) := by omega
 have n2 : (2 : Int) < (len : Int) := by omega
 have n3 : (3 : Int) < (len : Int) := by omega
 have x0 : IntKind.u32.wrap (b0 : Int) = (b0 : Int) := by rw [IntKind.wrap_u32]; omega
 have x1 : IntKind.u32.wrap (b1 : Int) = (b1 : Int) := by rw [IntKind.wrap_u32]; omega
 have x2 : IntKind.u32.wrap (b2 : Int) = (b2 : Int) := by rw [IntKind.wrap_u32]; omega
 have x3 : IntKind.u32.wrap (b3 : Int) = (b3 : Int) := by rw [IntKind.wrap_u32]; omega
 obtain ⟨s0, hs0⟩ : ∃ s0, s0 = b0 * 16777216 := ⟨_, rfl⟩
 obtain ⟨s1, hs1⟩ : ∃ s1, s1 = b1 * 65536 := ⟨_, rfl⟩
 obtain ⟨s2, hs2⟩ : ∃ s2, s2 = b2 * 256 := ⟨_, rfl⟩
 obtain ⟨t1, ht1⟩ : ∃ t1, t1 = s0 + s1 := ⟨_, rfl⟩
 obtain ⟨t2, ht2⟩ : ∃ t2, t2 = t1 + s2 := ⟨_, rfl⟩
 obtain ⟨t3, ht3⟩ : ∃ t3, t3 = t2 + b3 := ⟨_, rfl⟩
 have y0 : IntKind.u32.wrap ((b0 : Int) * 16777216) = (s0 : Int) := by rw [IntKind.wrap_u32]; omega
 have y1 : IntKind.u32.wrap ((b1 : Int) * 65536) = (s1 : Int) := by rw [IntKind.wrap_u32]; omega
 have y2 : IntKind.u32.wrap ((b2 : Int) * 256) = (s2 : Int) := by rw [IntKind.wrap_u32]; omega
 have o1 : bits .or .u32 (s0 : Int) (s1 : Int) = (t1 : Int) := or_sum 24 b0 s1 s0 s1 t1 (by omega) rfl (by omega) (by omega) (by omega) ht1
 have o2 : bits .or .u32 (t1 : Int) (s2 : Int) = (t2 : Int) := or_sum 16 (b0 * 256 + b1) s2 t1 s2 t2 (by omega) rfl (by omega) (by omega) (by omega) ht2
 have o3 : bits .or .u32 (t2 : Int) (b3 : Int) = (t3 : Int) := or_sum 8 (b0 * 65536 + b1 * 256 + b2) b3 t2 b3 t3 (by omega) rfl (by omega) (by omega) (by omega) ht3
 have hvt : Hid (t3 = val (bs.take 4)) := by show _ = _; have := hv.out; omega
 clear hs0 hs1 hs2 ht1 ht2 ht3 l0 l1 l2 l3 h4
 clear hc hs hbl
 go_enter Tryz.func186, Tryz.ntmps186
 go_wp2_with fail
 refine wp_region_held_drew (S := fun x => x.cell? ⟨b, o, none⟩ = some (.int .u8 (b0 : Int)) ∧ x.cell? ⟨b, o + 1, none⟩ = some (.int .u8 (b1 : Int)) ∧ x.cell? ⟨b, o + 2, none⟩ = some (.int .u8 (b2 : Int)) ∧ x.cell? ⟨b, o + 3, none⟩ = some (.int .u8 (b3 : Int))) (by kernel_rfl) ⟨c0, c1, c2, c3⟩ (fun hHeld => ?_)
 refine qi 0 (by assumption) ?_
 iterate 23 (refine qk rfl (by kernel_rfl) (fun _ _ _ h => h) (by intro w hSw; (try dsimp only at hSw); go_simp; all_goals with_reducible rfl) (by (try simp only [Act.put, lz]); rfl) ?_)
 refine qo ?_
 refine wpAnyH_done (by kernel_rfl) ?_ _
 clear hHeld
 go_wp2
 go_ret
 exact ⟨by rw [hvt.out]; rfl, Below.drew Qb⟩
end
section
open Go.RowKit Go.Sort
open Crc Frm
attribute [local go_sem] Oper.semAt_some
def mNums (l : List Int) : List Nat := l.flatMap fun n => be 4 n.toNat
def mSum (l : List Int) : List Nat := l.length :: mNums l
def mRaw (l : List Int) : List Nat := mSum l ++ be 4 (more 0 (mSum l))
def mPut (l : List Int) : List Nat := if mOk l = true then mRaw l else []
theorem upL_all : ∀ (l : List Int) (z : Int), upL z l = true → ∀ x ∈ l, z < x ∧ x ≤ 1073741824
 | [], _, _, x, hx => by cases hx
 | y :: l, z, h, x, hx => by
  simp only [upL, Bool.and_eq_true, decide_eq_true_eq] at h
  rcases List.mem_cons.1 hx with rfl | hx
  · exact ⟨h.1, h.2.1⟩
  have := upL_all l y h.2.2 x hx
  exact ⟨by omega, this.2⟩
theorem mOk_all {l : List Int} (h : mOk l = true) : 1 ≤ l.length ∧ l.length ≤ 40 ∧ ∀ x ∈ l, 0 ≤ x ∧ x ≤ 1073741824 := by
 simp only [mOk, Bool.and_eq_true, decide_eq_true_eq] at h
 refine ⟨h.1, h.2.1, fun x hx => ?_⟩
 have := upL_all l _ h.2.2 x hx
 omega
theorem mNums_len (l : List Int) : (mNums l).length = 4 * l.length := by
 induction l with
 | nil => rfl
 | cons x l ih => simp only [mNums, List.flatMap_cons, List.length_append, be_len, List.length_cons] at *; omega
theorem mNums_byte (l : List Int) : ∀ c ∈ mNums l, c < 256 := by
 intro c hc
 obtain ⟨m, _, h⟩ := List.mem_flatMap.1 hc
 exact be_byte _ _ c h
theorem mNums_snoc (l : List Int) (x : Int) : mNums (l ++ [x]) = mNums l ++ be 4 x.toNat := by simp [mNums]
theorem mput_any (l : List Int) (a : Option Addr) (n c : Nat) (w : World) (hr : Row w w.heap.size a n c 1 (intsC l)) (hn : l.length = n) :
 Calls Tryz.prog 137 #[.slice a n c] w fun e w' => ∃ v, e = .returned v ∧ OwnB w' w.heap.size 5 v (mPut l) ∧ Below w.heap.size w w' := by
 have R := Qh (mright_any l a n c w hr hn)
 by_cases hok : mOk l = true
 · have hall := mOk_all hok
   rw [hok] at R
   have hp : Hid (mPut l = mRaw l) := by show _ = _; unfold mPut; rw [if_pos hok]
   have n1 : 1 ≤ n := by omega
   have n2 : n ≤ 40 := by omega
   obtain ⟨i8, hi8, hz0, hz1, hz2⟩ := info_parts info_u8
   have u0 : (n : Int) % 256 = (n : Int) := by omega
   have HR := Qh (Qa hr (Qa hn hall.2.2))
   clear hr hn hall
   go_enter Tryz.func137, Tryz.ntmps137
   go_wp2_with fail
   refine R.out.mono ?_
   rintro e w1 ⟨rfl, rfl⟩
   have SZ := Qh (msize_any n (by omega) w)
   go_wp2_with fail
   refine SZ.out.mono ?_
   rintro e w1 ⟨rfl, rfl⟩
   go_wp2_with (first
    | (at_make; refine wpList_make_own _ rfl (.const (.int .i64 0)) (.tmp 11) 38 rfl w.heap.size 5 i8 (.int .u8 0) 1 Tryz.underlying38 hi8 hz0 hz1 .i64 .i64 _ (5 + 4 * n) rfl rfl (by omega) (by rw [hz2]; omega) (by unfold maxLen; omega) (by omega) ?_; intro w3 hown hg; have ho3 : OwnB w3 w.heap.size 5 (.slice (some ⟨w.heap.size, 0, none⟩) 0 (5 + 4 * n)) [] := hown; have hB3 : Below w.heap.size w w3 := (RowKit.Below.refl _ _).grown hg Qn (fun k hk => by cases hk); have H3 := Qh (Qa ho3 hB3); clear hown hg ho3 hB3)
    | (at_builtin; go_loud (refine wpList_append_sl rfl (.tmp 13) (.tmp 17) 38 rfl w.heap.size _ Tryz.underlying38 info_u8 _ [] rfl (H3.out.1.alloc _) _ (some ⟨w3.heap.size, 0, none⟩) 1 1 [n] rfl (Sl.one _ _ (by omega)) (by simp) (by have := H3.out.2.size; simp; omega) ?_; intro v4 w4 hown4 hg4 hat4; have hB4 : Below w.heap.size w w4 := (H3.out.2.alloc H3.out.2.size _).grown hg4 (by have := H3.out.2.size; simp; omega) (fun k hk => (H3.out.1.at_base hk).1); have H4 := Qh (Qa hown4 hB4); clear hown4 hB4 hg4 hat4 H3))
    | fail)
   go_loopw [3, 5, 21] (fun u _ i wx => ∃ k : Nat, k ≤ n ∧ i = .int .i64 (k : Int) ∧ OwnB wx w.heap.size 5 u (n :: mNums (l.take k)) ∧ Below w.heap.size w wx) (fun _ _ i _ => n - (intOf i).toNat)
   case atStart => exact ⟨0, Nat.zero_le _, rfl, H4.out.1, H4.out.2⟩
   case round =>
    obtain ⟨k, hk, rfl, ho, hb⟩ := hrel
    by_cases hlt : k < n
    · obtain ⟨b, o, rfl, hbl, hc⟩ := HR.out.1.at_ (by omega)
      have c0 := (hb.cell (p := ⟨b, o + k, none⟩) hbl).trans (hc k (by omega))
      simp only [intsC, Nat.mul_one] at c0
      have hlk : k < l.length := by have := HR.out.2.1; omega
      have hmem : l.getD k 0 ∈ l := by rw [List.getD_eq_getElem?_getD, List.getElem?_eq_getElem hlk]; exact List.getElem_mem _
      have hx := HR.out.2.2 _ hmem
      have htk : l.take (k + 1) = l.take k ++ [l.getD k 0] := by rw [List.take_succ_eq_append_getElem hlk, List.getD_eq_getElem?_getD, List.getElem?_eq_getElem hlk]; rfl
      have Hnx : Hid (mNums (l.take (k + 1)) = mNums (l.take k) ++ be 4 (l.getD k 0).toNat) := by show _ = _; rw [htk, mNums_snoc]
      generalize l.getD k 0 = x at *
      obtain ⟨y, rfl⟩ := Int.eq_ofNat_of_zero_le hx.1
      have w1 : IntKind.u32.wrap ((y : Nat) : Int) = (y : Int) := by rw [IntKind.wrap_u32']; omega
      have w2 : ((y : Nat) : Int) % 4294967296 = (y : Int) := by omega
      have hlen : (n :: mNums (l.take k)).length ≤ 1000000 := by have h1 := mNums_len (l.take k); have h2 := List.length_take_le k l; simp only [List.length_cons]; omega
      have WR := Qh (mwrite_any w.heap.size _ _ y wr ho hb.size (by omega) hlen)
      have HB := Qh (Qa hb ho)
      clear hc hb hmem htk ho hx hlen
      go_wp2_with fail
      refine WR.out.mono ?_
      rintro e w5 ⟨v5, rfl, ho5, hg5, hat5⟩
      have hB5 : Below w.heap.size w w5 := HB.out.1.grown hg5 HB.out.1.size (fun k hk => (HB.out.2.at_base hk).1)
      have H5 := Qh (Qa ho5 hB5)
      clear ho5 hB5 hg5 hat5 WR
      go_wp2
      go_roundw
      case rel => exact ⟨k + 1, by omega, by go_num, by rw [Hnx.out]; exact H5.out.1, H5.out.2⟩
      case measure => simp [intOf]; omega
    have hkn : k = n := by omega
    subst hkn
    have hms : k :: mNums (l.take k) = mSum l := by rw [List.take_of_length_le (by have := HR.out.2.1; omega)]; unfold mSum; rw [HR.out.2.1]
    rw [hms] at ho
    have hbb : ∀ c ∈ mSum l, c < 256 := by
     intro c hc
     rcases List.mem_cons.1 hc with rfl | h
     · have := HR.out.2.1; omega
     exact mNums_byte l c h
    have hsl : (mSum l).length ≤ 1000000 := by have h1 := mNums_len l; have h2 := HR.out.2.1; unfold mSum; simp only [List.length_cons]; omega
    obtain ⟨a5, cap5, rfl, hs5⟩ := ho.sl hbb
    have hml := more_lt 0 (mSum l)
    have Hraw : Hid (mPut l = mSum l ++ be 4 (more 0 (mSum l))) := by show _ = _; rw [hp.out]; rfl
    generalize mSum l = ms at *
    generalize hml0 : more 0 ms = m at *
    have HM := Qh hml0
    have OF := Qh (of_any a5 ms.length cap5 ms wr hs5)
    have H5 := Qh (Qa ho hb)
    clear ho hb hs5 hbb hms hml0
    go_wp2_with fail
    refine OF.out.mono ?_
    rintro e w6 ⟨rfl, hb6⟩
    rw [HM.out]
    have WR := Qh (mwrite_any w.heap.size _ ms m w6 (H5.out.1.below hb6) (Nat.le_trans H5.out.2.size hb6.size) (by omega) hsl)
    have H6 := Qh (Qa (H5.out.1.below hb6) (H5.out.2.trans (hb6.mono H5.out.2.size)))
    clear hb6 OF
    go_wp2_with fail
    refine WR.out.mono ?_
    rintro e w7 ⟨v7, rfl, ho7, hg7, hat7⟩
    have hB7 : Below w.heap.size w w7 := H6.out.2.grown hg7 H6.out.2.size (fun k hk => (H6.out.1.at_base hk).1)
    have H7 := Qh (Qa ho7 hB7)
    clear ho7 hB7 hg7 hat7 WR
    go_wp2
    go_ret
    exact ⟨_, rfl, by rw [Hraw.out]; exact H7.out.1, H7.out.2⟩
 have hno : mOk l = false := by simpa using hok
 rw [hno] at R
 have hp : Hid (mPut l = []) := by show _ = _; unfold mPut; rw [if_neg hok]
 go_enter Tryz.func137, Tryz.ntmps137
 go_wp2_with fail
 refine R.out.mono ?_
 rintro e w1 ⟨rfl, rfl⟩
 go_wp2
 go_ret
 exact ⟨_, rfl, by rw [hp.out]; exact OwnB.nil_ _ _ _, Below.refl _ _⟩
end
section
open Go.RowKit Go.Sort
open Crc Frm
attribute [local go_sem] Oper.semAt_some
def mNum (bs : List Nat) (j : Nat) : Int := ((val ((bs.drop (1 + 4 * j)).take 4) : Nat) : Int)
def mList (bs : List Nat) : List Int := (List.range (bs.getD 0 0)).map (mNum bs)
def mGet (bs : List Nat) : List Int × Nat :=
 if bs.length = 0 ∨ bs.length ≠ 5 + 4 * bs.getD 0 0 then ([], 12)
 else if val (bs.drop (bs.length - 4)) ≠ more 0 (bs.take (bs.length - 4)) then ([], 14)
 else if mOk (mList bs) = true then (mList bs, 0) else ([], 12)
theorem info_i64m : (Tryz.prog.info? 2).map (fun i => (i.zero, i.size, i.bytes)) = some (some (.int .i64 0), 1, 8) := by kernel_rfl
theorem row_own {w : World} {base : Nat} {e : TypeId} {g n c : Nat} {l : List Int} (h : OwnV w base e (.slice (some ⟨g, 0, none⟩) n c) (i64V l)) : Row w w.heap.size (some ⟨g, 0, none⟩) n c 1 (intsC l) := by
 have hl := h.len
 have hb := h.base_
 have hcc : n ≤ c ∧ c ≤ maxLen := by
  rcases h.2 with ⟨h', _⟩ | ⟨g', cap', cur, h', _, _, h1, h2, _⟩
  · cases h'
  injection h' with _ h4 h5
  subst h5
  rw [hl]
  exact ⟨h1, h2⟩
 refine ⟨hcc.1, hcc.2, fun _ => ⟨g, 0, rfl, hb.2, fun j hj => ?_⟩⟩
 have hj' : j < l.length := by rw [List.length_map] at hl; omega
 rw [Nat.zero_add, (h.cell (k := j) (u := .int .i64 l[j]) (by rw [List.getElem?_map, List.getElem?_eq_getElem hj']; rfl)).1]
 simp only [intsC, List.getD_eq_getElem?_getD, List.getElem?_eq_getElem hj']
 rfl
theorem mget_any (a : Option Addr) (len cap : Nat) (bs : List Nat) (w : World) (hs : Sl w w.heap.size a len cap bs) (hl : len ≤ 2000000) :
 Calls Tryz.prog 140 #[.slice a len cap] w fun e w' => ∃ v, e = .returned (.tuple #[v, .int .i64 (((mGet bs).2 : Nat) : Int)]) ∧ OwnV w' w.heap.size 2 v (i64V (mGet bs).1) ∧ Below w.heap.size w w' := by
 have hlen := hs.length
 have hcap := hs.le
 by_cases h0 : len = 0
 · subst h0
   have hg : mGet bs = ([], 12) := by unfold mGet; rw [if_pos (.inl hlen)]
   rw [hg]
   clear hs hlen hg
   go_enter Tryz.func140, Tryz.ntmps140
   go_wp2
   go_ret2
   exact ⟨_, rfl, OwnV.nil_ _ _ _, Below.refl _ _⟩
 obtain ⟨b, o, rfl, hb, hc⟩ := hs.at_ (by omega)
 have c0 : w.cell? ⟨b, o, none⟩ = some (.int .u8 ((bs.getD 0 0 : Nat) : Int)) := hc 0 (by omega)
 have l0 : bs.getD 0 0 < 256 := by rw [List.getD_eq_getElem?_getD, List.getElem?_eq_getElem (by omega)]; exact hs.byte _ (List.getElem_mem _)
 have n0 : 0 < len := by omega
 have z0 : ((len : Int) == 0) = false := by simp; omega
 have z1 : ¬ ((len : Int) = 0) := by omega
 have HG : Hid (mGet bs = if len = 0 ∨ len ≠ 5 + 4 * bs.getD 0 0 then ([], 12) else if val (bs.drop (len - 4)) ≠ more 0 (bs.take (len - 4)) then ([], 14) else if mOk (mList bs) = true then (mList bs, 0) else ([], 12)) := by show _ = _; unfold mGet; rw [hlen]
 have HLs : Hid (mList bs = (List.range (bs.getD 0 0)).map (mNum bs)) := rfl
 have HS := Qh hs
 generalize bs.getD 0 0 = b0 at *
 have w0 : IntKind.i64.wrap (b0 : Int) = (b0 : Int) := by rw [IntKind.wrap_i64]; omega
 have SZ := Qh (msize_any b0 (by omega) w)
 obtain ⟨q, hq⟩ : ∃ q, q = 5 + 4 * b0 := ⟨_, rfl⟩
 rw [← hq] at SZ
 have Hq := Qh hq
 clear hs hc hlen
 by_cases hlq : len = q
 · subst hlq
   have Hlq := Qh hq
   clear hq
   obtain ⟨m, hm⟩ : ∃ m, m = len - 4 := ⟨_, rfl⟩
   have hm4 : m + 4 = len := by have := Hlq.out; omega
   have s4 : IntKind.i64.wrap ((len : Int) - 4) = (m : Int) := by rw [IntKind.wrap_i64]; omega
   obtain ⟨a4, ha4⟩ : ∃ a4, a4 = fromA (some ⟨b, o, none⟩) cap m := ⟨_, rfl⟩
   have kcut : ∀ x, (Instr.slice 38 (.slice (some ⟨b, o, none⟩) len cap) none (some (.int .i64 (m : Int))) none).run Tryz.prog x = .ok (.slice (some ⟨b, o, none⟩) m cap) x := run_cut_to (P := Tryz.prog) 38 5 Tryz.underlying38 info_u8 _ len cap m (by omega)
   obtain ⟨c4, hc4⟩ : ∃ c4, c4 = cap - m := ⟨_, rfl⟩
   have kfrom : ∀ x, (Instr.slice 38 (.slice (some ⟨b, o, none⟩) len cap) (some (.int .i64 (m : Int))) none none).run Tryz.prog x = .ok (.slice a4 4 c4) x := fun x => by
    have := run_cut_from (P := Tryz.prog) 38 5 Tryz.underlying38 info_u8 (some ⟨b, o, none⟩) len cap m (by omega) x
    rw [this, ha4, hc4, show len - m = 4 from by omega]
    rfl
   have S4 : Sl w w.heap.size a4 4 c4 (bs.drop m) := by
    have := HS.out.from_ (k := m) (by omega)
    rw [← ha4, ← hc4, show len - m = 4 from by omega] at this
    exact this
   have SM : Sl w w.heap.size (some ⟨b, o, none⟩) m cap (bs.take m) := HS.out.take (by omega)
   have RD := Qh (fun (x : World) (hx : Below w.heap.size w x) => mread_any a4 4 c4 (bs.drop m) x ((S4.below hx Qn).more hx.size) Qn)
   have OF := Qh (fun (x : World) (hx : Below w.heap.size w x) => of_from (B := w.heap.size) Qn SM x hx)
   have ht4 : (bs.drop m).take 4 = bs.drop m := by rw [List.take_of_length_le (by have := S4.length; omega)]
   rw [ht4] at RD
   rw [← hm] at HG
   have hv4 : val (bs.drop m) < 4294967296 := by
    have := val_lt (bs.drop m) S4.byte
    rw [S4.length] at this
    simpa using this
   have hmo := more_lt 0 (bs.take m)
   generalize val (bs.drop m) = x4 at *
   generalize more 0 (bs.take m) = y4 at *
   clear S4 SM ht4 ha4 hc4 hm
   go_enter Tryz.func140, Tryz.ntmps140
   go_wp2_with fail
   refine SZ.out.mono ?_
   rintro e w1 ⟨rfl, rfl⟩
   go_wp2_with fail
   refine wp_region_held_drew (S := fun x => x.cell? ⟨b, o, none⟩ = some (.int .u8 (b0 : Int))) (by kernel_rfl) c0 (fun hHeld => ?_)
   refine qi 0 (by assumption) ?_
   iterate 12 (refine qk rfl (by kernel_rfl) (fun _ _ _ h => h) (by intro w hSw; (try dsimp only at hSw); go_simp; all_goals with_reducible rfl) (by (try simp only [Act.put, lz]); rfl) ?_)
   refine qo ?_
   refine wpAnyH_done (by kernel_rfl) ?_ _
   clear hHeld
   have hBd : Below w.heap.size w w.drew := Below.drew Qb
   have Hd := Qh hBd
   go_wp2_with fail
   refine (RD.out _ hBd).mono ?_
   rintro e w2 ⟨rfl, hb2⟩
   have hB2 := hBd.trans (hb2.mono hBd.size)
   have HB2 := Qh hB2
   clear hb2 hBd hB2 kcut kfrom s4
   go_wp2_with fail
   refine (OF.out _ HB2.out).mono ?_
   rintro e w3 ⟨rfl, hb3⟩
   have c3 := (hb3.cell (p := ⟨b, o, none⟩) hb).trans c0
   have HB3 := Qh hb3
   clear hb3 HB2 RD OF SZ c0
   by_cases hxy : x4 = y4
   · subst hxy
     have hg : Hid (mGet bs = if mOk (mList bs) = true then (mList bs, 0) else ([], 12)) := by
      show _ = _
      rw [HG.out, if_neg (by have := Hlq.out; omega), if_neg (by simp)]
     obtain ⟨i8, hi8, hz0, hz1, hz2⟩ := info_parts info_i64m
     clear HG hv4 hmo
     go_wp2_with (first
      | (at_make; refine wpList_make_full _ rfl (.tmp 38) (.tmp 38) 50 rfl w.heap.size 2 i8 (.int .i64 0) 1 Tryz.underlying50 hi8 hz0 hz1 .u8 .u8 _ _ b0 rfl rfl rfl rfl (by rw [hz2]; omega) (by unfold maxLen; omega) HB3.out.size ?_; intro w4 hown hg4; have ho4 := OwnV.made rfl hown; have hB4 : Below w.heap.size w w4 := HB3.out.grown hg4 HB3.out.size (fun k hk => by cases hk); have H4 := Qh (Qa ho4 hB4); clear hown hg4 ho4 hB4)
      | fail)
     obtain ⟨g, hgg⟩ : ∃ g, g = w3.heap.size := ⟨_, rfl⟩
     rw [← hgg] at H4 ⊢
     have hgw : w.heap.size ≤ g := by have := HB3.out.size; omega
     clear hgg
     go_loopw [7, 42] (fun _ i wr => ∃ (k : Nat) (us : List Value), k ≤ b0 ∧ i = .int .i64 (k : Int) ∧ us.length = b0 ∧ (∀ j, j < k → us[j]? = some (.int .i64 (mNum bs j))) ∧
      OwnV wr w.heap.size 2 (.slice (some ⟨g, 0, none⟩) b0 b0) us ∧ Below w.heap.size w wr) (fun _ i _ => b0 - (intOf i).toNat)
     case atStart => exact ⟨0, _, Nat.zero_le _, rfl, List.length_replicate, fun j hj => by omega, H4.out.1, H4.out.2⟩
     case round =>
      obtain ⟨k, us, hk, rfl, hul, huj, how, hB⟩ := hrel
      by_cases hlt : k < b0
      · have hkc := OwnV.cell how (k := k) (List.getElem?_eq_getElem (by omega))
        obtain ⟨p, hp⟩ : ∃ p, p = 1 + 4 * k := ⟨_, rfl⟩
        have hpl : p + 4 ≤ len := by have := Hlq.out; omega
        have v1 : IntKind.i64.wrap ((k : Int) * 4) = (k : Int) * 4 := by rw [IntKind.wrap_i64]; omega
        have v2 : IntKind.i64.wrap (1 + (k : Int) * 4) = (p : Int) := by rw [IntKind.wrap_i64]; omega
        obtain ⟨aa, haa⟩ : ∃ aa, aa = fromA (some ⟨b, o, none⟩) cap p := ⟨_, rfl⟩
        obtain ⟨nn, hnn⟩ : ∃ nn, nn = len - p := ⟨_, rfl⟩
        obtain ⟨cc, hcc⟩ : ∃ cc, cc = cap - p := ⟨_, rfl⟩
        have kf : ∀ x, (Instr.slice 38 (.slice (some ⟨b, o, none⟩) len cap) (some (.int .i64 (p : Int))) none none).run Tryz.prog x = .ok (.slice aa nn cc) x := fun x => by
         have := run_cut_from (P := Tryz.prog) 38 5 Tryz.underlying38 info_u8 (some ⟨b, o, none⟩) len cap p (by omega) x
         rw [this, haa, hnn, hcc]
         rfl
        have SP : Sl w w.heap.size aa nn cc (bs.drop p) := by
         have := HS.out.from_ (k := p) (by omega)
         rw [← haa, ← hnn, ← hcc] at this
         exact this
        have RP := Qh (mread_any aa nn cc (bs.drop p) wr ((SP.below hB Qn).more hB.size) (by omega))
        have hvl : val ((bs.drop p).take 4) < 4294967296 := by
         have h1 := val_lt ((bs.drop p).take 4) (fun c hc => SP.byte c (List.mem_of_mem_take hc))
         have h2 : ((bs.drop p).take 4).length = 4 := by rw [List.length_take, SP.length]; omega
         rw [h2] at h1
         simpa using h1
        have Hn : Hid (mNum bs k = ((val ((bs.drop p).take 4) : Nat) : Int)) := by show _ = _; unfold mNum; rw [hp]
        generalize val ((bs.drop p).take 4) = z at *
        have v3 : IntKind.i64.wrap ((z : Nat) : Int) = (z : Int) := by rw [IntKind.wrap_i64]; omega
        have Hr := Qh (Qa huj (Qa how hB))
        clear SP huj how hB haa hnn hcc hp
        go_wp2_with fail
        refine RP.out.mono ?_
        rintro e w5 ⟨rfl, hb5⟩
        obtain ⟨huj, how, hB⟩ := Hr.out
        have how5 := how.kept (grown_of_below hb5 none) (by simp)
        have hkc5 := OwnV.cell how5 (k := k) (List.getElem?_eq_getElem (by omega))
        have hB5 := hB.trans (hb5.mono hB.size)
        have H5 := Qh (Qa huj (Qa how5 hB5))
        clear huj how hB how5 hB5 hb5 Hr hkc RP
        go_wp2
        obtain ⟨huj, how5, hB5⟩ := H5.out
        refine ⟨⟨k + 1, us.set k (.int .i64 (z : Int)), by omega, by go_num, by rw [List.length_set]; exact hul, ?_, how5.set_ k _, hB5.setCell (p := ⟨g, k, none⟩) hgw _⟩, by simp [intOf]; omega⟩
        intro j hj
        rw [List.getElem?_set]
        by_cases e : k = j
        · subst e
          rw [if_pos rfl, if_pos (by omega), Hn.out]
        rw [if_neg e]
        exact huj j (by omega)
      have hkb : k = b0 := by omega
      subst hkb
      have hus : us = i64V (mList bs) := by
       rw [HLs.out]
       apply List.ext_getElem?
       intro j
       by_cases hj : j < k
       · rw [huj j hj, List.getElem?_map, List.getElem?_map, List.getElem?_range hj]
         rfl
       rw [List.getElem?_eq_none (by omega), List.getElem?_eq_none (by simp; omega)]
      subst hus
      have RT := Qh (mright_any (mList bs) (some ⟨g, 0, none⟩) k k wr (row_own how) (by rw [List.length_map] at hul; exact hul))
      have Hr := Qh (Qa how hB)
      clear huj how hB hul HLs
      generalize hok : mOk (mList bs) = ok at *
      have Hok := Qh hok
      clear hok
      go_wp2_with fail
      refine RT.out.mono ?_
      rintro e w6 ⟨rfl, rfl⟩
      cases ok
      · go_wp2
        go_ret2
        exact ⟨.slice none 0 0, by rw [hg.out, if_neg (by simp)]; rfl, by rw [hg.out, if_neg (by simp)]; exact OwnV.nil_ _ _ _, Hr.out.2⟩
      go_wp2
      go_ret2
      exact ⟨.slice (some ⟨g, 0, none⟩) k k, by rw [hg.out, if_pos trivial]; rfl, by rw [hg.out, if_pos trivial]; exact Hr.out.1, Hr.out.2⟩
   have hxy2 : ((x4 : Int) == (y4 : Int)) = false := by simp; omega
   have hg : Hid (mGet bs = ([], 14)) := by
    show _ = _
    rw [HG.out, if_neg (by have := Hlq.out; omega), if_pos hxy]
   go_wp2
   go_ret2
   exact ⟨.slice none 0 0, by rw [hg.out]; rfl, by rw [hg.out]; exact OwnV.nil_ _ _ _, HB3.out⟩
 have hlq2 : ((len : Int) == (q : Int)) = false := by simp; omega
 have hg : Hid (mGet bs = ([], 12)) := by show _ = _; rw [HG.out, if_pos (.inr (by have := Hq.out; omega))]
 clear hq
 go_enter Tryz.func140, Tryz.ntmps140
 go_wp2_with fail
 refine SZ.out.mono ?_
 rintro e w1 ⟨rfl, rfl⟩
 go_wp2
 go_ret2
 exact ⟨.slice none 0 0, by rw [hg.out]; rfl, by rw [hg.out]; exact OwnV.nil_ _ _ _, Below.refl _ _⟩
end
section
open Go.RowKit Go.Sort
open Crc Frm
attribute [local go_sem] Oper.semAt_some
def mfS : ByteArray := ⟨#[109, 97, 110, 105, 102, 101, 115, 116]⟩
def nxS : ByteArray := ⟨#[109, 97, 110, 105, 102, 101, 115, 116, 46, 116, 109, 112]⟩
def mfL : List UInt8 := [109, 97, 110, 105, 102, 101, 115, 116]
def nxL : List UInt8 := [109, 97, 110, 105, 102, 101, 115, 116, 46, 116, 109, 112]
theorem OwnV.mono {w : World} {base base' : Nat} {e : TypeId} {v : Value} {us : List Value} (h : OwnV w base e v us) (hb : base' ≤ base) : OwnV w base' e v us := by
 refine ⟨h.1, ?_⟩
 rcases h.2 with h1 | ⟨g, cap, cur, hv, h1, h2⟩
 · exact .inl h1
 exact .inr ⟨g, cap, cur, hv, Nat.le_trans hb h1, h2⟩
theorem Mv.still {w0 w w' : World} {dp : Nat} {O : Nat → Prop} {t : St} (h : DK w0 w dp t O) (hb : Below w.heap.size w w') : Mv w0 w dp O t w' := ⟨O, h.on hb, But.of_below hb, fun _ hk => .inl hk⟩
theorem Mv.behind {w0 w w1 w' : World} {dp : Nat} {O : Nat → Prop} {t : St} (hb : Below w.heap.size w w1) (h : Mv w0 w1 dp O t w') : Mv w0 w dp O t w' := by
 obtain ⟨O', h1, h2, h3⟩ := h
 exact ⟨O', h1, (But.of_below hb).trans h2 (fun _ hi => .inl hi), fun k hk => by rcases h3 k hk with h4 | h4; exact .inl h4; exact .inr (Nat.le_trans hb.size h4)⟩
def mLoad (t : St) : List Int × Nat := match fat t.D mfL with | none => ([], 3) | some f => mGet f.bs
theorem mload_any {w0 w : World} {dp : Nat} {t : St} {O : Nat → Prop} (h : DK w0 w dp t O) :
 Calls Tryz.prog 80 #[.pointer (some ⟨dp, 0, none⟩)] w fun e w' => ∃ v, e = .returned (.tuple #[v, .int .i64 (((mLoad t).2 : Nat) : Int)]) ∧ OwnV w' w.heap.size 2 v (i64V (mLoad t).1) ∧ Below w.heap.size w w' := by
 have RD := h.read mfS (by decide)
 have HF := fat_byte h.good mfL
 have HK := Qh h
 change Calls _ _ _ _ (NewBytes w ((fat t.D mfL).getD Fl.zero).bs (fat t.D mfL).isSome) at RD
 have hb9 : ∀ f, fat t.D mfL = some f → f.bs.length ≤ 2000000 := fun f hf => by have := (h.good.at_ hf).2.2.2; have := h.good.tot_; have := h.good.room_; omega
 have HL : Hid (mLoad t = match fat t.D mfL with | none => ([], 3) | some f => mGet f.bs) := rfl
 have HF := Qh HF
 clear h
 unfold mfS at RD
 cases hf : fat t.D mfL with
 | none =>
  rw [hf] at RD HL HF
  have RD := Qh RD
  have hg : Hid (mLoad t = ([], 3)) := HL.out
  clear HL hb9 hf
  go_enter Tryz.func80, Tryz.ntmps80
  go_wp2_with fail
  refine RD.out.mono ?_
  rintro e w1 hN
  obtain ⟨x, xc, rfl, _, _, hb⟩ := NewBytes.out HK.out hN HF.out
  have HB := Qh hb
  clear hN hb RD
  go_wp2
  go_ret2
  exact ⟨.slice none 0 0, by rw [hg.out]; rfl, by rw [hg.out]; exact OwnV.nil_ _ _ _, HB.out⟩
 | some f =>
  rw [hf] at RD HL HF
  have hl := hb9 f hf
  have RD := Qh RD
  have hg : Hid (mLoad t = mGet f.bs) := HL.out
  clear HL hb9 hf
  go_enter Tryz.func80, Tryz.ntmps80
  go_wp2_with fail
  refine RD.out.mono ?_
  rintro e w1 hN
  obtain ⟨x, xc, rfl, hxs, _, hb⟩ := NewBytes.out HK.out hN HF.out
  have GT := Qh (mget_any x f.bs.length xc f.bs w1 hxs hl)
  have HB := Qh hb
  clear hN hb RD hxs
  go_wp2_with fail
  refine GT.out.mono ?_
  rintro e w2 ⟨v, rfl, hv, hb2⟩
  have H2 := Qh (Qa (hv.mono HB.out.size) (HB.out.trans (hb2.mono HB.out.size)))
  clear hv hb2 GT
  go_wp2
  go_ret2
  exact ⟨v, by rw [hg.out]; rfl, by rw [hg.out]; exact H2.out.1, H2.out.2⟩
def delNext (t : St) : Int × St := if (fat t.D nxL).isSome = true then t.delete nxL else (0, t)
theorem delnext_any {w0 w : World} {dp : Nat} {t : St} {O : Nat → Prop} (h : DK w0 w dp t O) :
 Calls Tryz.prog 135 #[.pointer (some ⟨dp, 0, none⟩)] w fun e w' => e = .returned (.int .i64 (delNext t).1) ∧ Mv w0 w dp O (delNext t).2 w' := by
 have RD := h.read nxS (by decide)
 have HF := Qh (fat_byte h.good nxL)
 have HK := Qh h
 change Calls _ _ _ _ (NewBytes w ((fat t.D nxL).getD Fl.zero).bs (fat t.D nxL).isSome) at RD
 have DL := Qh (fun (x : World) (hx : Below w.heap.size w x) => (HK.out.on hx).delete nxS (by decide))
 have HD : Hid (delNext t = if (fat t.D nxL).isSome = true then t.delete nxL else (0, t)) := rfl
 clear h
 unfold nxS at RD DL
 have RD := Qh RD
 generalize (fat t.D nxL).isSome = is at *
 go_enter Tryz.func135, Tryz.ntmps135
 go_wp2_with fail
 refine RD.out.mono ?_
 rintro e w1 hN
 obtain ⟨x, xc, rfl, _, _, hb⟩ := NewBytes.out HK.out hN HF.out
 have HB := Qh hb
 clear hN hb RD
 cases is with
 | false =>
  have hd : Hid (delNext t = (0, t)) := HD.out
  go_wp2
  go_ret
  exact ⟨by rw [hd.out]; rfl, by rw [hd.out]; exact Mv.still HK.out HB.out⟩
 | true =>
  have hd : Hid (delNext t = t.delete nxL) := HD.out
  go_wp2_with fail
  refine (DL.out _ HB.out).mono ?_
  rintro e w2 ⟨rfl, hmv⟩
  have HM := Qh (Mv.behind HB.out hmv)
  clear hmv DL
  go_wp2
  go_ret
  exact ⟨by rw [hd.out]; rfl, by rw [hd.out]; exact HM.out⟩
end
end
end Go.Proofs.YtamblmoedommfaaGreatDoor

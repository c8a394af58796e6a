/- Contracts of the reference of frames: Scan; Get and Scan of bytes whose answer is known. -/
import Derived.Test.YtiiellclnmakpaaDoorFrG
import Derived.Test.YtiiellclnmakpaaDoorFrT
namespace Go.Proofs.YtiiellclnmakpaaDoor
open Go.RowKit
open Crc Frm

set_option maxRecDepth 100000 in
set_option maxHeartbeats 1600000 in
theorem rscan_any (a : Option Addr) (len cap : Nat) (bs : List Nat) (first : Int) (w : World) (hs : Sl w w.heap.size a len cap bs) (hlen : len ≤ 100000) :
    Calls Tryd.prog 24 #[.slice a len cap, .int .i64 first] w fun e w' => ∃ v ts, e = .returned (.tuple #[v, .int .i64 (((scan bs first).2 : Nat) : Int)]) ∧ OwnF w' w.heap.size v ts ∧ ts.map (·.1) = (scan bs first).1 ∧ Below w.heap.size w w' := by
  have hle := hs.le
  have hmx := hs.max
  unfold maxLen at hmx
  have hbl := hs.length
  go_enter Tryd.func24, Tryd.ntmps24
  go_wp2_with fail
  go_loopw [6, 7, 8] (fun u at' wn wx => ∃ (k : Nat) (au : Option Addr) (cu : Nat) (ts : List FC), k ≤ len ∧ at' = .int .i64 (k : Int) ∧ u = .slice au ts.length cu ∧ wn = .int .i64 (first + (ts.length : Int)) ∧ OwnF wx w.heap.size (.slice au ts.length cu) ts ∧ Scanned bs first k ts ∧ Below w.heap.size w wx) (fun _ i _ _ => len - (intOf i).toNat)
  case atStart => exact ⟨0, none, 0, [], by omega, rfl, rfl, by simp, OwnF.nil_ _ _, Scanned.start _ _, Below.refl _ _⟩
  case round =>
    obtain ⟨k, au, cu, ts, hk, rfl, rfl, rfl, ho, hsc, hB⟩ := hrel
    have hs1 := ((hs.below hB (Nat.le_refl _)).more hB.size).from_ hk
    have c1 : ∀ w, (Instr.slice 22 (.slice a len cap) (some (.int .i64 (k : Int))) none none).run Tryd.prog w = .ok (.slice (fromA a cap k) (len - k) (cap - k)) w :=
      run_cut_from (P := Tryd.prog) 22 5 Tryd.underlying22 info_u8 a len cap k hk
    generalize fromA a cap k = a2 at c1 hs1
    generalize hl2 : len - k = l2 at c1 hs1
    generalize cap - k = k2 at c1 hs1
    have G := Lib.hid (rget_any a2 l2 k2 _ wr hs1)
    have Hsc := Lib.hid hsc
    have hst := fun h0 h1 => Lib.hid (hsc.step h0 h1)
    have hsp := fun hno => Lib.hid (hsc.stop hno)
    have htl := hsc.le
    have hge : ∀ h0 : (get (bs.drop k)).2.2 = 0, (11 ≤ (get (bs.drop k)).2.1 ∧ (get (bs.drop k)).2.1 ≤ l2) ∧ 0 ≤ (get (bs.drop k)).1.seq ∧ (get (bs.drop k)).1.seq ≤ 1073741824 := fun h0 => by
      obtain ⟨hr, hg, hl, _, _⟩ := get_ok _ h0
      rw [hg]
      rw [List.length_drop] at hl
      simp only
      exact ⟨by omega, hr.2.2.1, hr.2.2.2.1⟩
    have Ho := Lib.hid (And.intro ho hB)
    clear hsc hs1 ho hB
    obtain ⟨want, hwant⟩ : ∃ x, x = first + (ts.length : Int) := ⟨_, rfl⟩
    rw [← hwant] at hst hsp ⊢
    have Hwant := Lib.hid hwant
    clear hwant
    go_wp2_with fail
    refine G.out.mono ?_
    rintro e w2 ⟨ba, bc, rfl, hsb, hb2, hbb⟩
    obtain ⟨ho, hB⟩ := Ho.out
    have ho2 := ho.below hb2
    have hB2 := hB.trans (hb2.mono hB.size)
    have hbn : ∀ q, (Value.slice au ts.length cu).ownBlock = some q → q < wr.heap.size := fun q hq => (ho.at_base hq).2
    have hsz := hb2.size
    have H2 := Lib.hid (And.intro ho2 (And.intro hB2 (And.intro hsb hbb)))
    generalize hgt : get (bs.drop k) = G3 at *
    obtain ⟨f, n, er⟩ := G3
    simp only at *
    clear ho2 hB2 hsb hbb hb2 ho hB G Ho
    by_cases h0 : er = 0
    · by_cases h1 : f.seq = want
      · have Hst := Lib.hid ((hst h0 h1).out ba bc)
        obtain ⟨⟨hn11, hnl⟩, hq0, hq1⟩ := hge h0
        clear hst hsp hge
        subst h0
        have r1 : (f.seq != want) = false := by simp; omega
        have hw1 : IntKind.i64.wrap (f.seq + 1) = f.seq + 1 := by rw [IntKind.wrap_i64]; omega
        have H1 := Lib.hid h1
        clear h1
        have hbn2 : 0 < f.body.length → ∀ b o, ba = some ⟨b, o, none⟩ → some b ≠ (Value.slice au ts.length cu).ownBlock := fun _ b o e h => by
          have h1 := H2.out.2.2.2 b o e
          have h2 := hbn b h.symm
          omega
        have hoa : ∀ o1 o2, OwnF ((w2.alloc o1).alloc o2) w.heap.size (.slice au ts.length cu) ts := fun o1 o2 => H2.out.1.below (((Below.refl _ _).alloc (Nat.le_refl _) _).alloc (by simp) _)
        have hsa : ∀ o1 o2, Sl ((w2.alloc o1).alloc o2) ((w2.alloc o1).alloc o2).heap.size ba f.body.length bc f.body := fun o1 o2 => (H2.out.2.2.1.below (((Below.refl _ _).alloc (Nat.le_refl _) _).alloc (by simp) _) (Nat.le_refl _)).more (by simp; omega)
        have Hoa := Lib.hid (And.intro hoa hsa)
        have hwl : w.heap.size ≤ w2.heap.size := H2.out.2.1.size
        have hx0 : ∀ o, ((w2.alloc (.cells #[.int .i64 f.ty, .int .i64 f.seq, .slice ba f.body.length bc] 36)).alloc o).cell? ⟨w2.heap.size, 1, none⟩ = some (.int .i64 f.seq) := fun o => (World.cell?_alloc_past _ _ _ (by simp)).trans ((cell_of_row _ _ 1 _ _ _ (heap_alloc_new w2 _)).trans rfl)
        have hgc : ∀ w3 : World, ((w2.alloc (.cells #[.int .i64 f.ty, .int .i64 f.seq, .slice ba f.body.length bc] 36)).alloc (.cells #[.int .i64 f.ty, .int .i64 f.seq, .slice ba f.body.length bc] 36)).grownBy w3 (Value.slice au ts.length cu).ownBlock → w3.cell? ⟨w2.heap.size, 1, none⟩ = some (.int .i64 f.seq) := fun w3 hg3 => hg3.cell (hx0 _) (by intro h; have := hbn _ h.symm; simp at this; omega)
        have HGC := Lib.hid hgc
        clear hoa hsa hx0 hgc
        go_wp2_with (at_builtin; refine wpList_append_fr rfl (.tmp 31) (.tmp 33) rfl w.heap.size (.slice au ts.length cu) ts rfl (w2.heap.size + 1) (f, ba, bc) (by first | rfl | simp) (Hoa.out.1 _ _) (heap_alloc2_new _ _ _) (Hoa.out.2 _ _) hbn2 (by omega) (by simp; omega) ?_; intro v3 w3 ho3 hg3 hat3; have hx3 := HGC.out w3 hg3)
        have hB3 : Below w.heap.size w w3 := ((H2.out.2.1.alloc hwl _).alloc (by simp; omega) _).grown hg3 (by simp; omega) (fun q hq => (H2.out.1.at_base hq).1)
        obtain ⟨a3, c3, hv3, _⟩ := ho3.frs
        subst hv3
        have H3 := Lib.hid (And.intro ho3 hB3)
        clear ho3 hg3 hat3 hB3
        try go_wp2
        have hl4 : f.seq + 1 = first + (((ts ++ [((f, ba, bc) : FC)]).length : Nat) : Int) := by
          have h1 := H1.out
          have h2 := Hwant.out
          rw [List.length_append]; simp; omega
        exact ⟨⟨k + n, a3, c3, _, by omega, by go_num, rfl, by rw [hl4], H3.out.1, Hst.out, H3.out.2⟩, by simp [intOf]; omega⟩
      · have Hsp := hsp (by rintro ⟨_, h⟩; exact h1 h)
        clear hst hsp hge
        subst h0
        have r1 : (f.seq != want) = true := by simp; omega
        go_wp2
        go_ret2
        exact ⟨_, ts, ret_tup2 rfl (num_i64 Hsp.out.2), H2.out.1.below ((Below.refl _ _).alloc (Nat.le_refl _) _), Hsp.out.1, H2.out.2.1.alloc H2.out.2.1.size _⟩
    · have Hsp := hsp (by rintro ⟨h, _⟩; exact h0 h)
      clear hst hsp hge
      have r0 : ((er : Int) != 0) = true := by simp; omega
      go_wp2
      go_ret2
      exact ⟨_, ts, ret_tup2 rfl (num_i64 Hsp.out.2), H2.out.1.below ((Below.refl _ _).alloc (Nat.le_refl _) _), Hsp.out.1, H2.out.2.1.alloc H2.out.2.1.size _⟩

/-- Get, of bytes whose answer is known. -/
theorem rget_of {bs : List Nat} {f : Fr} {n er : Nat} (hg : get bs = (f, n, er)) (a : Option Addr) (len cap : Nat) (w : World) (hs : Sl w w.heap.size a len cap bs) :
    Calls Tryd.prog 40 #[.slice a len cap] w fun e w' => ∃ ba bc, e = .returned (.tuple #[.agg #[.int .i64 f.ty, .int .i64 f.seq, .slice ba f.body.length bc], .int .i64 (n : Int), .int .i64 (er : Int)]) ∧
      Sl w' w'.heap.size ba f.body.length bc f.body ∧ Below w.heap.size w w' ∧ (∀ b o, ba = some ⟨b, o, none⟩ → w.heap.size ≤ b) := by
  have := rget_any a len cap bs w hs
  rw [hg] at this
  exact this
/-- Scan, of bytes whose answer is known. -/
theorem rscan_of {bs : List Nat} {fs : List Fr} {n : Nat} {first : Int} (hg : scan bs first = (fs, n)) (a : Option Addr) (len cap : Nat) (w : World) (hs : Sl w w.heap.size a len cap bs) (hlen : len ≤ 100000) :
    Calls Tryd.prog 24 #[.slice a len cap, .int .i64 first] w fun e w' => ∃ va vc, e = .returned (.tuple #[.slice va fs.length vc, .int .i64 (n : Int)]) ∧ Frs w' w'.heap.size va fs.length vc fs ∧ Below w.heap.size w w' := by
  refine (rscan_any a len cap bs first w hs hlen).mono ?_
  rintro e w' ⟨v, ts, rfl, ho, hts, hb⟩
  rw [hg] at hts
  simp only at hts
  obtain ⟨va, vc, hv, hfr⟩ := ho.frs
  rw [hg]
  have hl : ts.length = fs.length := by rw [← hts, List.length_map]
  rw [hts] at hfr
  rw [hl] at hv hfr
  exact ⟨va, vc, by rw [hv], hfr, hb⟩
end Go.Proofs.YtiiellclnmakpaaDoor

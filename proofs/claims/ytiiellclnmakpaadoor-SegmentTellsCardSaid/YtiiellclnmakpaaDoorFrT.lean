/- Contracts of the program's frame: Scan. -/
import Derived.Test.YtiiellclnmakpaaDoorFrC
import Derived.Test.YtiiellclnmakpaaDoorFrS
namespace Go.Proofs.YtiiellclnmakpaaDoor
open Go.RowKit
open Crc Frm

/-- What has been scanned, as a loop sees it. -/
structure Scanned (bs : List Nat) (first : Int) (k : Nat) (ts : List FC) : Prop where
  le : ts.length ≤ k
  eq : scan bs first = (ts.map (·.1) ++ (scan (bs.drop k) (first + (ts.length : Int))).1, k + (scan (bs.drop k) (first + (ts.length : Int))).2)
  near : ts.length = 0 ∨ (0 ≤ first ∧ first + (ts.length : Int) ≤ 1073741825)
theorem Scanned.start (bs : List Nat) (first : Int) : Scanned bs first 0 [] := ⟨Nat.le_refl _, by simp, .inl rfl⟩
theorem Scanned.step {bs : List Nat} {first : Int} {k : Nat} {ts : List FC} (h : Scanned bs first k ts) (h0 : (get (bs.drop k)).2.2 = 0) (h1 : (get (bs.drop k)).1.seq = first + (ts.length : Int)) (ba : Option Addr) (bc : Nat) :
    Scanned bs first (k + (get (bs.drop k)).2.1) (ts ++ [((get (bs.drop k)).1, ba, bc)]) := by
  obtain ⟨hr, hg, hl, _, _⟩ := get_ok _ h0
  have hn : (get (bs.drop k)).2.1 = szOf (bs.drop k) + 11 := by rw [hg]
  have hsq : (get (bs.drop k)).1 = frOf (bs.drop k) := by rw [hg]
  have e := scan_step (bs.drop k) (first + (ts.length : Int)) h0 h1
  have hd : (bs.drop k).drop (get (bs.drop k)).2.1 = bs.drop (k + (get (bs.drop k)).2.1) := by rw [List.drop_drop]
  rw [hd] at e
  have hl1 : first + (((ts ++ [((get (bs.drop k)).1, ba, bc)]).length : Nat) : Int) = first + (ts.length : Int) + 1 := by rw [List.length_append]; simp; omega
  have hle := h.le
  refine ⟨by rw [List.length_append, hn]; simp; omega, ?_, ?_⟩
  · rw [hl1, h.eq, e]
    simp
    omega
  · right
    rw [hsq] at h1
    have h2 := hr.2.2.1
    have h3 := hr.2.2.2.1
    rw [h1] at h2 h3
    rw [hl1]
    rcases h.near with h4 | h4
    · rw [h4] at h2 h3 ⊢; simp at h2 h3 ⊢; omega
    · omega
theorem Scanned.stop {bs : List Nat} {first : Int} {k : Nat} {ts : List FC} (h : Scanned bs first k ts) (hno : ¬ ((get (bs.drop k)).2.2 = 0 ∧ (get (bs.drop k)).1.seq = first + (ts.length : Int))) :
    ts.map (·.1) = (scan bs first).1 ∧ k = (scan bs first).2 := by
  rw [h.eq, scan_stop _ _ hno]
  simp

theorem num_i64 {a b : Nat} (h : a = b) : Value.int .i64 (a : Int) = .int .i64 (b : Int) := by rw [h]

set_option maxRecDepth 100000 in
set_option maxHeartbeats 1600000 in
theorem scan_any (a : Option Addr) (len cap : Nat) (bs : List Nat) (first : Int) (w : World) (hs : Sl w w.heap.size a len cap bs) (hlen : len ≤ 100000) (hf0 : -9223372036854775808 ≤ first) (hf1 : first < 9223372036854775808) :
    Calls Tryd.prog 21 #[.slice a len cap, .int .i64 first] w fun e w' => ∃ v ts, e = .returned (.tuple #[v, .int .i64 (((scan bs first).2 : Nat) : Int)]) ∧ OwnF w' w.heap.size v ts ∧ ts.map (·.1) = (scan bs first).1 ∧ Below w.heap.size w w' := by
  have hle := hs.le
  have hmx := hs.max
  unfold maxLen at hmx
  have hbl := hs.length
  go_enter Tryd.func21, Tryd.ntmps21
  go_wp2_with fail
  go_loopw [6, 7] (fun u at' wx => ∃ (k : Nat) (au : Option Addr) (cu : Nat) (ts : List FC), k ≤ len ∧ at' = .int .i64 (k : Int) ∧ u = .slice au ts.length cu ∧ OwnF wx w.heap.size (.slice au ts.length cu) ts ∧ Scanned bs first k ts ∧ Below w.heap.size w wx) (fun _ i _ => len - (intOf i).toNat)
  case atStart => exact ⟨0, none, 0, [], by omega, rfl, rfl, OwnF.nil_ _ _, Scanned.start _ _, Below.refl _ _⟩
  case round =>
    obtain ⟨k, au, cu, ts, hk, rfl, rfl, ho, hsc, hB⟩ := hrel
    have hs1 := ((hs.below hB (Nat.le_refl _)).more hB.size).from_ hk
    have c1 : ∀ w, (Instr.slice 22 (.slice a len cap) (some (.int .i64 (k : Int))) none none).run Tryd.prog w = .ok (.slice (fromA a cap k) (len - k) (cap - k)) w :=
      run_cut_from (P := Tryd.prog) 22 5 Tryd.underlying22 info_u8 a len cap k hk
    generalize fromA a cap k = a2 at c1 hs1
    generalize hl2 : len - k = l2 at c1 hs1
    generalize cap - k = k2 at c1 hs1
    have G := Lib.hid (get_any a2 l2 k2 _ wr hs1)
    have Hsc := Lib.hid hsc
    have hst := fun h0 h1 => Lib.hid (hsc.step h0 h1)
    have hsp := fun hno => Lib.hid (hsc.stop hno)
    have htl := hsc.le
    have hwrap : IntKind.i64.wrap (first + (ts.length : Int)) = first + (ts.length : Int) := by
      rw [IntKind.wrap_i64]
      rcases hsc.near with h | ⟨h1, h2⟩
      · rw [h]; omega
      · omega
    have hge : ∀ h0 : (get (bs.drop k)).2.2 = 0, 11 ≤ (get (bs.drop k)).2.1 ∧ (get (bs.drop k)).2.1 ≤ l2 := fun h0 => by
      obtain ⟨_, hg, hl, _, _⟩ := get_ok _ h0
      rw [hg]
      rw [List.length_drop] at hl
      simp only
      omega
    have Ho := Lib.hid (And.intro ho hB)
    clear hsc hs1 ho hB
    go_wp2_with fail
    refine G.out.mono ?_
    rintro e w2 ⟨ba, bc, rfl, hsb, hb2, hbb⟩
    obtain ⟨ho, hB⟩ := Ho.out
    have ho2 := ho.below hb2
    have hB2 := hB.trans (hb2.mono hB.size)
    have hbn : ∀ q, (Value.slice au ts.length cu).ownBlock = some q → q < wr.heap.size := fun q hq => (ho.at_base hq).2
    have hsz := hb2.size
    have H2 := Lib.hid (And.intro ho2 (And.intro hB2 (And.intro hsb hbb)))
    generalize hgt : get (bs.drop k) = G3 at *
    obtain ⟨f, n, er⟩ := G3
    simp only at *
    clear ho2 hB2 hsb hbb hb2 ho hB G Ho
    by_cases h0 : er = 0
    · by_cases h1 : f.seq = first + (ts.length : Int)
      · have Hst := Lib.hid ((hst h0 h1).out ba bc)
        obtain ⟨hn11, hnl⟩ := hge h0
        clear hst hsp hge
        subst h0
        have r1 : (f.seq != first + (ts.length : Int)) = false := by simp; omega
        clear h1
        have hbn2 : 0 < f.body.length → ∀ b o, ba = some ⟨b, o, none⟩ → some b ≠ (Value.slice au ts.length cu).ownBlock := fun _ b o e h => by
          have h1 := H2.out.2.2.2 b o e
          have h2 := hbn b h.symm
          omega
        have hoa : ∀ o1 o2, OwnF ((w2.alloc o1).alloc o2) w.heap.size (.slice au ts.length cu) ts := fun o1 o2 => H2.out.1.below (((Below.refl _ _).alloc (Nat.le_refl _) _).alloc (by simp) _)
        have hsa : ∀ o1 o2, Sl ((w2.alloc o1).alloc o2) ((w2.alloc o1).alloc o2).heap.size ba f.body.length bc f.body := fun o1 o2 => (H2.out.2.2.1.below (((Below.refl _ _).alloc (Nat.le_refl _) _).alloc (by simp) _) (Nat.le_refl _)).more (by simp; omega)
        have Hoa := Lib.hid (And.intro hoa hsa)
        have hwl : w.heap.size ≤ w2.heap.size := H2.out.2.1.size
        clear hoa hsa
        go_wp2_with (at_builtin; refine wpList_append_fr rfl (.tmp 32) (.tmp 34) rfl w.heap.size (.slice au ts.length cu) ts rfl (w2.heap.size + 1) (f, ba, bc) (by first | rfl | simp) (Hoa.out.1 _ _) (heap_alloc2_new _ _ _) (Hoa.out.2 _ _) hbn2 (by omega) (by simp; omega) ?_; intro v3 w3 ho3 hg3 hat3)
        have hB3 : Below w.heap.size w w3 := ((H2.out.2.1.alloc hwl _).alloc (by simp; omega) _).grown hg3 (by simp; omega) (fun q hq => (H2.out.1.at_base hq).1)
        obtain ⟨a3, c3, hv3, _⟩ := ho3.frs
        subst hv3
        have H3 := Lib.hid (And.intro ho3 hB3)
        clear ho3 hg3 hat3 hB3
        go_wp2
        exact ⟨⟨k + n, a3, c3, _, by omega, by go_num, rfl, H3.out.1, Hst.out, H3.out.2⟩, by simp [intOf]; omega⟩
      · have Hsp := hsp (by rintro ⟨_, h⟩; exact h1 h)
        clear hst hsp hge
        subst h0
        have r1 : (f.seq != first + (ts.length : Int)) = true := by simp; omega
        go_wp2
        go_ret2
        exact ⟨_, ts, ret_tup2 rfl (num_i64 Hsp.out.2), H2.out.1.below ((Below.refl _ _).alloc (Nat.le_refl _) _), Hsp.out.1, H2.out.2.1.alloc H2.out.2.1.size _⟩
    · have Hsp := hsp (by rintro ⟨h, _⟩; exact h0 h)
      clear hst hsp hge
      have r0 : ((er : Int) != 0) = true := by simp; omega
      go_wp2
      go_ret2
      exact ⟨_, ts, ret_tup2 rfl (num_i64 Hsp.out.2), H2.out.1.below ((Below.refl _ _).alloc (Nat.le_refl _) _), Hsp.out.1, H2.out.2.1.alloc H2.out.2.1.size _⟩
end Go.Proofs.YtiiellclnmakpaaDoor

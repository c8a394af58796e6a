/- The head of the statements on frames: its fixed answers. -/
import Derived.Test.YtcmgefccihehkaaFrT
import Derived.Test.YtcmgefccihehkaaFrE
import Derived.Lib.SlBytesConst
namespace Go.Proofs.Ytcmgefccihehkaa
open Go.RowKit
open Crc Frm

def F1 : Fr := ⟨2, 258, [97, 98]⟩
def F2 : Fr := ⟨1, 259, []⟩
def B13 : List Nat := [0, 2, 2, 0, 0, 1, 2, 97, 98, 87, 209, 235, 99]
def B11 : List Nat := [0, 0, 1, 0, 0, 1, 3, 32, 30, 150, 53]
theorem hd_put1 : put F1 = B13 := by decide +kernel
theorem hd_put2 : put F2 = B11 := by decide +kernel
theorem hd_put0 : put Fr.zero = [] := by decide +kernel
theorem hd_get1 : get (B13 ++ [9]) = (⟨2, 258, [97, 98]⟩, 13, 0) := by decide +kernel
theorem hd_get2 : get (B13.take 12) = (⟨0, 0, []⟩, 0, 13) := by decide +kernel
theorem hd_get3 : get (B13.set 8 99) = (⟨0, 0, []⟩, 0, 14) := by decide +kernel
theorem hd_get4 : get [255, 255] = (⟨0, 0, []⟩, 0, 12) := by decide +kernel
theorem hd_scan1 : scan (B13 ++ B11) 258 = ([F1, F2], 24) := by decide +kernel
theorem hd_scan2 : scan B13 257 = ([], 0) := by decide +kernel
theorem B13_byte : ∀ c ∈ B13, c < 256 := by decide
theorem B11_byte : ∀ c ∈ B11, c < 256 := by decide

/-- What the head keeps. -/
structure HeadHas (w w' : World) (p : Nat) (a : Option Addr) (cap : Nat) : Prop where
  below : Below w.heap.size w w'
  frame : w'.heap[p]? = some (.cells #[.int .i64 2, .int .i64 258, .slice (some ⟨w.heap.size, 0, none⟩) 2 2] 24 (0, 0))
  body : Sl w' w'.heap.size (some ⟨w.heap.size, 0, none⟩) 2 2 [97, 98]
  bytes : Sl w' w'.heap.size a 13 cap B13
theorem HeadHas.on {w w1 w2 : World} {p : Nat} {a : Option Addr} {cap : Nat} (h : HeadHas w w1 p a cap) (hb : Below w1.heap.size w1 w2) : HeadHas w w2 p a cap :=
  ⟨h.below.trans (hb.mono h.below.size), (hb.block p (lt_of_heap h.frame)).trans h.frame, (h.body.below hb (Nat.le_refl _)).more hb.size, (h.bytes.below hb (Nat.le_refl _)).more hb.size⟩

structure HeadX (w' : World) (p : Nat) (ba : Option Addr) (bc : Nat) : Prop where
  frame : w'.heap[p]? = some (.cells #[.int .i64 2, .int .i64 258, .slice ba 2 bc] 24 (0, 0))
  body : Sl w' w'.heap.size ba 2 bc [97, 98]
theorem HeadX.on {w1 w2 : World} {p : Nat} {ba : Option Addr} {bc : Nat} (h : HeadX w1 p ba bc) (hb : Below w1.heap.size w1 w2) : HeadX w2 p ba bc :=
  ⟨(hb.block p (lt_of_heap h.frame)).trans h.frame, (h.body.below hb (Nat.le_refl _)).more hb.size⟩
/-- Get, of bytes whose answer is known. -/
theorem get_of {bs : List Nat} {f : Fr} {n er : Nat} (hg : get bs = (f, n, er)) (a : Option Addr) (len cap : Nat) (w : World) (hs : Sl w w.heap.size a len cap bs) :
    Calls Try.prog 5 #[.slice a len cap] w fun e w' => ∃ ba bc, e = .returned (.tuple #[.agg #[.int .i64 f.ty, .int .i64 f.seq, .slice ba f.body.length bc], .int .i64 (n : Int), .int .i64 (er : Int)]) ∧
      Sl w' w'.heap.size ba f.body.length bc f.body ∧ Below w.heap.size w w' ∧ (∀ b o, ba = some ⟨b, o, none⟩ → w.heap.size ≤ b) := by
  have := get_any a len cap bs w hs
  rw [hg] at this
  exact this
/-- Scan, of bytes whose answer is known. -/
theorem scan_of {bs : List Nat} {fs : List Fr} {n : Nat} {first : Int} (hg : scan bs first = (fs, n)) (a : Option Addr) (len cap : Nat) (w : World) (hs : Sl w w.heap.size a len cap bs) (hlen : len ≤ 100000) (hf0 : -9223372036854775808 ≤ first) (hf1 : first < 9223372036854775808) :
    Calls Try.prog 7 #[.slice a len cap, .int .i64 first] w fun e w' => ∃ va vc, e = .returned (.tuple #[.slice va fs.length vc, .int .i64 (n : Int)]) ∧ Frs w' w'.heap.size va fs.length vc fs ∧ Below w.heap.size w w' := by
  refine (scan_any a len cap bs first w hs hlen hf0 hf1).mono ?_
  rintro e w' ⟨v, ts, rfl, ho, hts, hb⟩
  rw [hg] at hts
  simp only at hts
  obtain ⟨va, vc, hv, hfr⟩ := ho.frs
  rw [hg]
  have hl : ts.length = fs.length := by rw [← hts, List.length_map]
  rw [hts] at hfr
  rw [hl] at hv hfr
  exact ⟨va, vc, by rw [hv], hfr, hb⟩

set_option maxRecDepth 100000 in
set_option maxHeartbeats 3200000 in
theorem head_any (w : World) :
    Calls Try.prog 4 #[] w fun e w' => e = .returned (.bool true) ∧ Below w.heap.size w w' := by
  have kc := fun (w : World) (C : Array Value) (n c : Nat) => Lib.run_convert_bytes_const (P := Try.prog) w 22 5 C n c Try.underlying22 Try.underlying5
  have PU : ∀ (q : Option Addr) (c : Nat) (w' : World), Sl w' w'.heap.size q 2 c [97, 98] → Calls Try.prog 11 #[.agg #[.int .i64 2, .int .i64 258, .slice q 2 c]] w' fun e w'' => ∃ v, e = .returned v ∧ OwnB w'' w'.heap.size 5 v (put F1) ∧ Below w'.heap.size w' w'' := fun q c w' => put_any F1 q c w'
  have PU := Lib.hid PU
  go_enter Try.func4, Try.ntmps4
  go_wp2_with fail
  have hs0 : ∀ o, Sl ((w.alloc (.cells #[.int .u8 97, .int .u8 98] 5 (2, 3))).alloc o) ((w.alloc (.cells #[.int .u8 97, .int .u8 98] 5 (2, 3))).alloc o).heap.size (some ⟨w.heap.size, 0, none⟩) 2 2 [97, 98] := fun o =>
    Sl.new ((heap_alloc_old _ _ (by simp)).trans (heap_alloc_new _ _)) (by rfl) (by decide) _ rfl (by decide)
  refine (PU.out _ _ _ (hs0 _)).mono ?_
  rintro e w1 ⟨v, rfl, ho, hb1⟩
  rw [hd_put1] at ho
  obtain ⟨a, cap, hv, hs1⟩ := ho.sl B13_byte
  rw [show B13.length = 13 from rfl] at hv hs1
  subst hv
  have H1 : HeadHas w w1 (w.heap.size + 1) a cap := ⟨(((Below.refl _ _).alloc (Nat.le_refl _) _).alloc (by simp) _).trans (hb1.mono (by simp; omega)), (hb1.block _ (by simp)).trans (heap_alloc2_new _ _ _), ((hs0 _).below hb1 (Nat.le_refl _)).more hb1.size, hs1⟩
  have K1 := Lib.hid H1
  clear ho hb1 hs1 H1 hs0 kc PU
  have hown0 : OwnB (w1.alloc (.cells #[] 5)) w1.heap.size 5 (.slice (some ⟨w1.heap.size, 0, none⟩) 0 0) [] := OwnB.lit _ [] (Nat.le_refl _) (by decide)
  have hs2 := K1.out.bytes.below ((Below.refl _ w1).alloc (Nat.le_refl _) (.cells #[] 5)) (Nat.le_refl _)
  go_wp2_with (first
    | (at_builtin; refine wpList_append_sl rfl (.tmp 29) (.tmp 30) _ rfl w1.heap.size _ Try.underlying22 info_u8 (.slice (some ⟨w1.heap.size, 0, none⟩) 0 0) [] rfl hown0 _ a 13 cap B13 rfl hs2 (by decide) (by simp) ?_; intro v1 w3 ho1 hg1 hat1)
    | (at_builtin; refine wpList_append_sl rfl (.tmp 31) (.tmp 32) _ rfl w1.heap.size _ Try.underlying22 info_u8 v1 _ rfl (ho1.alloc _) _ (some ⟨w3.heap.size, 0, none⟩) 1 1 [9] rfl (Sl.one w3 _ (by decide)) (by decide) (by have := hg1.size; simp at this ⊢; omega) ?_; intro v2 w4 ho2 hg2 hat2))
  have hB4 : Below w1.heap.size w1 w4 := ((((Below.refl _ w1).alloc (Nat.le_refl _) _).grown hg1 (by simp) (fun k hk => by simp [Value.ownBlock] at hk; omega)).alloc (by have := hg1.size; simp at this; omega) _).grown hg2 (by have := hg1.size; simp at this ⊢; omega) (fun k hk => (ho1.at_base hk).1)
  obtain ⟨a2, c2, hv2, hs2'⟩ := ho2.sl (by decide)
  rw [List.nil_append] at hv2 hs2'
  have hl14 : (B13 ++ [9] : List Nat).length = 14 := rfl
  rw [hl14] at hv2 hs2'
  clear hl14
  subst hv2
  have K4 := Lib.hid (K1.out.on hB4)
  clear ho1 hg1 hat1 ho2 hg2 hat2 hown0 hs2 K1 hB4
  refine (get_of hd_get1 a2 14 c2 w4 hs2').mono ?_
  rintro e w5 ⟨xa, xc, rfl, hsx, hb5, _⟩
  have K5 := Lib.hid (K4.out.on (hb5.alloc hb5.size (.cells #[.int .i64 2, .int .i64 258, .slice xa 2 xc] 24)))
  have X5 : HeadX (w5.alloc (.cells #[.int .i64 2, .int .i64 258, .slice xa 2 xc] 24)) w5.heap.size xa xc := ⟨heap_alloc_new _ _, (hsx.below ((Below.refl _ _).alloc (Nat.le_refl _) _) (Nat.le_refl _)).more (by simp)⟩
  have X5 := Lib.hid X5
  clear hsx hb5 K4 hs2'
  have c12 : ∀ w, (Instr.slice 22 (.slice a 13 cap) none (some (.int .i64 12)) none).run Try.prog w = .ok (.slice a 12 cap) w := run_cut_to (P := Try.prog) 22 5 Try.underlying22 info_u8 a 13 cap 12 (by have := K5.out.bytes.le; omega)
  go_wp2_with fail
  refine (get_of hd_get2 a 12 cap _ (K5.out.bytes.take (k := 12) (by decide))).mono ?_
  rintro e w6 ⟨ya, yc, rfl, _, hb6, _⟩
  have K6 := Lib.hid (K5.out.on hb6)
  have X6 := Lib.hid (X5.out.on hb6)
  clear K5 X5 hb6
  have K7 := Lib.hid (K6.out.on ((Below.refl _ w6).alloc (Nat.le_refl _) (.cells #[.int .i64 0, .int .i64 0, .slice ya 0 yc] 24)))
  have X7 := Lib.hid (X6.out.on ((Below.refl _ w6).alloc (Nat.le_refl _) (.cells #[.int .i64 0, .int .i64 0, .slice ya 0 yc] 24)))
  clear K6 X6 c12
  generalize hw7 : w6.alloc (.cells #[.int .i64 0, .int .i64 0, .slice ya 0 yc] 24) = w7 at K7 X7
  have hown0 : OwnB (w7.alloc (.cells #[] 5)) w7.heap.size 5 (.slice (some ⟨w7.heap.size, 0, none⟩) 0 0) [] := OwnB.lit _ [] (Nat.le_refl _) (by decide)
  have hs8 := K7.out.bytes.below ((Below.refl _ w7).alloc (Nat.le_refl _) (.cells #[] 5)) (Nat.le_refl _)
  go_upto_region 7 with fail
  try simp only [hw7]
  clear hw7
  go_upto_region 8 with (at_builtin; refine wpList_append_sl rfl (.tmp 48) (.tmp 49) _ rfl w7.heap.size _ Try.underlying22 info_u8 (.slice (some ⟨w7.heap.size, 0, none⟩) 0 0) [] rfl hown0 _ a 13 cap B13 rfl hs8 (by decide) (by simp) ?_; intro v8 w8 ho8 hg8 hat8)
  rw [List.nil_append] at ho8
  obtain ⟨g8, c8, hv8, hge8, _⟩ := World.ownsRow.form ho8 (by decide)
  subst hv8
  have hB8 : Below w7.heap.size w7 w8 := ((Below.refl _ w7).alloc (Nat.le_refl _) _).grown hg8 (by simp) (fun k hk => by simp [Value.ownBlock] at hk; omega)
  have hl13 : B13.length = 13 := rfl
  rw [hl13]
  have hc8 := ho8.cell (k := 8) (by decide)
  have ho9 := ho8.set_ 8 99
  have hs9 := ho9.sl (by decide)
  obtain ⟨a9, c9, hv9, hs9⟩ := hs9
  have ha9 : a9 = some ⟨g8, 0, none⟩ := by injection hv9 with h1 h2 h3; exact h1.symm
  have hc9 : c9 = c8 := by injection hv9 with h1 h2 h3; exact h3.symm
  subst ha9 hc9
  have K9 := Lib.hid (K7.out.on (hB8.setCell (p := ⟨g8, 8, none⟩) hge8 (bv 99)))
  have X9 := Lib.hid (X7.out.on (hB8.setCell (p := ⟨g8, 8, none⟩) hge8 (bv 99)))
  have S9 := Lib.hid hs9
  clear hs9 ho9 ho8 hg8 hat8 hown0 hs8 K7 X7 hv9 hB8
  go_wp2_with fail
  refine (get_of hd_get3 (some ⟨g8, 0, none⟩) 13 c9 _ S9.out).mono ?_
  rintro e wA ⟨za, zc, rfl, _, hbA, _⟩
  have KA := Lib.hid ((K9.out.on hbA).on ((Below.refl _ wA).alloc (Nat.le_refl _) (.cells #[.int .i64 0, .int .i64 0, .slice za 0 zc] 24)))
  have XA := Lib.hid ((X9.out.on hbA).on ((Below.refl _ wA).alloc (Nat.le_refl _) (.cells #[.int .i64 0, .int .i64 0, .slice za 0 zc] 24)))
  clear K9 X9 hbA S9 hc8 hge8
  generalize hwB : wA.alloc (.cells #[.int .i64 0, .int .i64 0, .slice za 0 zc] 24) = wB at KA XA
  go_upto_region 10 with fail
  try simp only [hwB]
  clear hwB
  go_wp2_with fail
  refine (get_of hd_get4 _ 2 2 _ (Sl.new (heap_alloc_new _ _) (by rfl) (by decide) 2 rfl (by decide))).mono ?_
  rintro e wC ⟨ua, uc, rfl, _, hbC, _⟩
  have hBC := (((Below.refl _ wB).alloc (Nat.le_refl _) _).trans (hbC.mono (by simp))).alloc (by have := hbC.size; simp at this; omega) (.cells #[.int .i64 0, .int .i64 0, .slice ua 0 uc] 24)
  have KC := Lib.hid (KA.out.on hBC)
  have XC := Lib.hid (XA.out.on hBC)
  clear KA XA hBC hbC
  generalize hwD : wC.alloc (.cells #[.int .i64 0, .int .i64 0, .slice ua 0 uc] 24) = wD at KC XC
  go_upto_region 11 with fail
  try simp only [hwD]
  clear hwD
  have hown0 : OwnB (wD.alloc (.cells #[] 5)) wD.heap.size 5 (.slice (some ⟨wD.heap.size, 0, none⟩) 0 0) [] := OwnB.lit _ [] (Nat.le_refl _) (by decide)
  have hs8 := KC.out.bytes.below ((Below.refl _ wD).alloc (Nat.le_refl _) (.cells #[] 5)) (Nat.le_refl _)
  go_wp2_with (at_builtin; refine wpList_append_sl rfl (.tmp 66) (.tmp 67) _ rfl wD.heap.size _ Try.underlying22 info_u8 (.slice (some ⟨wD.heap.size, 0, none⟩) 0 0) [] rfl hown0 _ a 13 cap B13 rfl hs8 (by decide) (by simp) ?_; intro vE wE hoE hgE hatE)
  have hBE : Below wD.heap.size wD wE := ((Below.refl _ wD).alloc (Nat.le_refl _) _).grown hgE (by simp) (fun k hk => by simp [Value.ownBlock] at hk; omega)
  have HBE := Lib.hid hBE
  rw [List.nil_append] at hoE
  have hwDE := hBE.size
  clear hBE hgE hatE hown0 hs8
  refine (put_any F2 none 0 wE Sl.nil_).mono ?_
  rintro e wF ⟨vF, rfl, hoF, hbF⟩
  rw [hd_put2] at hoF
  obtain ⟨aF, cF, hvF, hsF⟩ := hoF.sl B11_byte
  rw [show B11.length = 11 from rfl] at hvF hsF
  subst hvF
  have hoE' := hoE.below hbF
  have hwEF := hbF.size
  have HBF := Lib.hid (HBE.out.trans (hbF.mono HBE.out.size))
  clear hoE hbF hoF HBE
  go_wp2_with (at_builtin; refine wpList_append_sl rfl (.tmp 68) (.tmp 70) _ rfl wD.heap.size _ Try.underlying22 info_u8 vE B13 rfl hoE' _ aF 11 cF B11 rfl hsF (by decide) (by omega) ?_; intro vG wG hoG hgG hatG)
  have hBG : Below wD.heap.size wD wG := HBF.out.grown hgG HBF.out.size (fun k hk => (hoE'.at_base hk).1)
  have KG := Lib.hid (KC.out.on hBG)
  have XG := Lib.hid (XC.out.on hBG)
  obtain ⟨aG, cG, hvG, hsG⟩ := hoG.sl (by decide)
  have hl24 : (B13 ++ B11 : List Nat).length = 24 := rfl
  rw [hl24] at hvG hsG
  clear hl24
  subst hvG
  have SG := Lib.hid hsG
  clear hoG hgG hatG hBG HBF KC XC hsF hoE' hsG hwDE hwEF
  refine (scan_of hd_scan1 aG 24 cG wG SG.out (by decide) (by decide) (by decide)).mono ?_
  rintro e wH ⟨la, lc, rfl, _, hbH⟩
  have KH := Lib.hid (KG.out.on hbH)
  have XH := Lib.hid (XG.out.on hbH)
  clear KG XG hbH SG
  go_wp2_with fail
  refine (scan_of hd_scan2 a 13 cap wH KH.out.bytes (by decide) (by decide) (by decide)).mono ?_
  rintro e wI ⟨ma, mc, rfl, _, hbI⟩
  have KI := Lib.hid (KH.out.on hbI)
  have XI := Lib.hid (XH.out.on hbI)
  clear KH XH hbI
  have s9 := KI.out.bytes.take (k := 9) (by decide)
  have c9' : ∀ w, (Instr.slice 22 (.slice a 13 cap) none (some (.int .i64 9)) none).run Try.prog w = .ok (.slice a 9 cap) w := run_cut_to (P := Try.prog) 22 5 Try.underlying22 info_u8 a 13 cap 9 (by have := KI.out.bytes.le; omega)
  have cv := run_str (P := Try.prog) s9 22 5 9 Try.underlying22 Try.underlying5 Try.underlying9
  rw [show strOf (B13.take 9) = { data := #[0, 2, 2, 0, 0, 1, 2, 97, 98] } from by decide +kernel] at cv
  have x0 := (cell_of_row wI _ 0 _ _ _ XI.out.frame).trans rfl
  have x1 := (cell_of_row wI _ 1 _ _ _ XI.out.frame).trans rfl
  have x2 := (cell_of_row wI _ 2 _ _ _ XI.out.frame).trans rfl
  have hltf := lt_of_heap KI.out.frame
  have y0 : ∀ o, (wI.alloc o).cell? ⟨w.heap.size + 1, 0, none⟩ = _ := fun o => (World.cell?_alloc_past _ _ _ hltf).trans ((cell_of_row wI _ 0 _ _ _ KI.out.frame).trans rfl)
  have y1 : ∀ o, (wI.alloc o).cell? ⟨w.heap.size + 1, 1, none⟩ = _ := fun o => (World.cell?_alloc_past _ _ _ hltf).trans ((cell_of_row wI _ 1 _ _ _ KI.out.frame).trans rfl)
  have y2 : ∀ o, (wI.alloc o).cell? ⟨w.heap.size + 1, 2, none⟩ = _ := fun o => (World.cell?_alloc_past _ _ _ hltf).trans ((cell_of_row wI _ 2 _ _ _ KI.out.frame).trans rfl)
  have SA := Lib.hid (fun (W : World) hA hB => same_any (some ⟨wI.heap.size, 0, none⟩) 1 1 [⟨2, 258, [97, 98]⟩] (some ⟨wI.heap.size + 1, 0, none⟩) 1 1 [⟨2, 258, [97, 98]⟩] W hA hB)
  clear s9
  go_wp2_with fail
  refine (SA.out _ ?_ ?_).mono ?_
  · exact (Frs.one (w1 := wI) (w := (wI.alloc _).alloc _) (f := ⟨2, 258, [97, 98]⟩) ((heap_alloc_old _ _ (by simp)).trans (heap_alloc_new _ _)) rfl rfl rfl XI.out.body (((Below.refl _ _).alloc (Nat.le_refl _) _).alloc (by simp) _))
  · exact (Frs.one (w1 := wI) (w := (wI.alloc _).alloc _) (f := ⟨2, 258, [97, 98]⟩) (heap_alloc2_new _ _ _) rfl rfl rfl KI.out.body (((Below.refl _ _).alloc (Nat.le_refl _) _).alloc (by simp) _))
  rintro e wJ ⟨rfl, hbJ⟩
  try rw [decide_eq_true rfl]
  have HJ := Lib.hid (KI.out.below.trans (((((Below.refl wI.heap.size wI).alloc (Nat.le_refl _) _).alloc (by simp) _).trans (hbJ.mono (by simp; omega))).mono KI.out.below.size))
  clear x0 x1 x2 y0 y1 y2 hbJ cv c9' SA KI XI
  go_wp2_with fail
  refine (put_any Fr.zero none 0 wJ Sl.nil_).mono ?_
  rintro e wK ⟨vK, rfl, hoK, hbK⟩
  rw [hd_put0] at hoK
  obtain ⟨aK, cK, hvK, _⟩ := hoK.sl (by decide)
  subst hvK
  have HK := Lib.hid (HJ.out.trans (hbK.mono HJ.out.size))
  clear hoK hbK HJ
  go_wp2
  go_ret
  exact ⟨rfl, HK.out⟩
end Go.Proofs.Ytcmgefccihehkaa

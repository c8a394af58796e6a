/- The head of the statements on events: it is true. -/
import Derived.Test.YtnpakjdgcmbcnaaEvHd
namespace Go.Proofs.Ytnpakjdgcmbcnaa
open Go.RowKit
open Wir Evn
attribute [local go_sem] Oper.semAt_some

theorem evm_lit {w : World} {e : Ev} (h : Ev64 e) (h1 : e.pol.bands = []) (h2 : e.pol.slots = []) (h3 : e.body = []) : EvM w none none none 0 0 0 e := ⟨by rw [h1]; exact PRow.nil_, by rw [h2]; exact PRow.nil_, by rw [h3]; exact Sl.nil_, h⟩
/-- Calls with known answers. -/
theorem put_to {w : World} {a1 a2 a3 : Option Addr} {c1 c2 c3 : Nat} {e : Ev} {bs : List Nat} (h : putR e = bs) (hm : EvM w a1 a2 a3 c1 c2 c3 e) (hn : e.pol.bands.length ≤ 100 ∧ e.pol.slots.length ≤ 100 ∧ e.body.length ≤ 100000) :
    Calls Try.prog 15 #[evV e a1 a2 a3 c1 c2 c3] w fun r w' => ∃ a c, r = .returned (.slice a bs.length c) ∧ Sl w' w'.heap.size a bs.length c bs ∧ Below w.heap.size w w' := by
  subst h; exact put_any e hm hn.1 hn.2.1 hn.2.2
theorem get_to {w : World} {a : Option Addr} {len cap : Nat} {bs : List Nat} {kind : Int} {e : Ev} {f : Nat} (h : getR kind bs = (e, f)) (hk : I64 kind) (hs : Sl w w.heap.size a len cap bs) (hlen : len ≤ 1000000) :
    Calls Try.prog 7 #[.int .i64 kind, .slice a len cap] w fun r w' => ∃ d1 d2 d3 f1 f2 f3, r = .returned (.tuple #[evV e d1 d2 d3 f1 f2 f3, .int .i64 ((f : Nat) : Int)]) ∧ EvM w' d1 d2 d3 f1 f2 f3 e ∧ Below w.heap.size w w' := by
  have := get_any kind hk hs hlen
  rw [h] at this
  exact this
theorem right_to {w : World} {a1 a2 a3 : Option Addr} {c1 c2 c3 : Nat} {e : Ev} {b : Bool} (h : rightR e = b) (hm : EvM w a1 a2 a3 c1 c2 c3 e) :
    Calls Try.prog 9 #[evV e a1 a2 a3 c1 c2 c3] w fun r w' => r = .returned (.bool b) ∧ Below w.heap.size w w' := by
  subst h; exact right_any e hm.bands hm.slots
theorem same_to {w : World} {a1 a2 a3 b1 b2 b3 : Option Addr} {c1 c2 c3 d1 d2 d3 : Nat} {e f : Ev} {b : Bool} (h : evSame e f = b) (hm : EvM w a1 a2 a3 c1 c2 c3 e) (hk : EvM w b1 b2 b3 d1 d2 d3 f) :
    Calls Try.prog 17 #[evV e a1 a2 a3 c1 c2 c3, evV f b1 b2 b3 d1 d2 d3] w fun r w' => r = .returned (.bool b) ∧ Below w.heap.size w w' := by
  subst h; exact same_any e f hm.bands hm.slots hm.body hk.bands hk.slots hk.body
theorem pol_to {w : World} {a1 a2 : Option Addr} {c1 c2 : Nat} {p : Pl} {b : Bool} (h : polR p = b) (h1 : PRow w a1 p.bands.length c1 p.bands) (h2 : PRow w a2 p.slots.length c2 p.slots) :
    Calls Try.prog 11 #[plV p a1 a2 c1 c2] w fun e w' => e = .returned (.bool b) ∧ Below w.heap.size w w' := by
  subst h; exact policy_any p h1 h2
theorem conf_to {w : World} {c : Cf} {b : Bool} (h : confR c = b) : Calls Try.prog 13 #[cfV c] w fun e w' => e = .returned (.bool b) ∧ Below w.heap.size w w' := by
  subst h; exact conf_any c w
theorem plain_any (w : World) : Calls Try.prog 19 #[] w fun e w' => e = .returned (cfV CP) ∧ Below w.heap.size w w' := by
  have hB := Lib.hid (fun o => bel1 (Below.refl w.heap.size w) o)
  go_enter Try.func19, Try.ntmps19
  go_wp2
  refine bodyPost_ret (results_cell_row rfl _ _ w.heap.size _ _ _ _ rfl (heap_alloc_new _ _) Try.underlying27 (by rfl) (by kernel_rfl)) (by rfl) ?_
  exact ⟨rfl, hB.out _⟩
theorem b1_byte : ∀ c ∈ B1, c < 256 := by decide
theorem str_b1 : strOf B1 = ⟨#[248, 10, 216, 4]⟩ := by kernel_rfl
structure Hd1 (w w' : World) (a : Option Addr) (c : Nat) : Prop where
  below : Below w.heap.size w w'
  bytes : Sl w' w'.heap.size a 4 c B1
theorem Hd1.on {w w1 w2 : World} {a : Option Addr} {c : Nat} (h : Hd1 w w1 a c) (hb : Below w1.heap.size w1 w2) : Hd1 w w2 a c := ⟨bel2 h.below hb, (h.bytes.below hb (Nat.le_refl _)).more hb.size⟩
structure Hd2 (w w' : World) (a : Option Addr) (c q : Nat) (d1 d2 d3 : Option Addr) (f1 f2 f3 : Nat) : Prop where
  h1 : Hd1 w w' a c
  ev : EvAt w' q E1 d1 d2 d3 f1 f2 f3
theorem Hd2.on {w w1 w2 : World} {a : Option Addr} {c q : Nat} {d1 d2 d3 : Option Addr} {f1 f2 f3 : Nat} (h : Hd2 w w1 a c q d1 d2 d3 f1 f2 f3) (hb : Below w1.heap.size w1 w2) : Hd2 w w2 a c q d1 d2 d3 f1 f2 f3 := ⟨h.h1.on hb, h.ev.on hb⟩
def p6C (g : Nat) : Array Value := #[.int .i64 2, .int .i64 0, .slice (some ⟨g, 0, none⟩) 2 2, .int .i64 0, .int .i64 0, .int .i64 0, .int .i64 0, .slice none 0 0]
structure Hd3 (w' : World) (g : Nat) : Prop where
  pol : w'.heap[g + 1]? = some (.cells (p6C g) 25 (0, 0))
  row : PRow w' (some ⟨g, 0, none⟩) 2 2 [(0, -1), (800, 2)]
theorem Hd3.on {w1 w2 : World} {g : Nat} (h : Hd3 w1 g) (hb : Below w1.heap.size w1 w2) : Hd3 w2 g := ⟨(hb.block _ (lt_of_heap h.pol)).trans h.pol, h.row.on hb⟩
theorem p6_new (w : World) : Hd3 ((w.alloc (.cells #[.int .i64 0, .int .i64 (-1), .int .i64 800, .int .i64 2] 44)).alloc (.cells (p6C w.heap.size) 25)) w.heap.size ∧
    Below w.heap.size w ((w.alloc (.cells #[.int .i64 0, .int .i64 (-1), .int .i64 800, .int .i64 2] 44)).alloc (.cells (p6C w.heap.size) 25)) := by
  refine ⟨⟨?_, ?_⟩, bel1 (bel1 (Below.refl _ _) _) _⟩
  · rw [show w.heap.size + 1 = (w.alloc (.cells #[.int .i64 0, .int .i64 (-1), .int .i64 800, .int .i64 2] 44)).heap.size from by simp]; exact heap_alloc_new _ _
  · have h1 : (w.alloc (.cells #[.int .i64 0, .int .i64 (-1), .int .i64 800, .int .i64 2] 44)).heap[w.heap.size]? = some (.cells (rowA 2 [(0, -1), (800, 2)]) 44 (0, 0)) := by
      rw [show rowA 2 [(0, -1), (800, 2)] = #[.int .i64 0, .int .i64 (-1), .int .i64 800, .int .i64 2] from by kernel_rfl]; exact heap_alloc_new _ _
    exact (PRow.new_ h1 rfl (by decide)).on (bel1 (Below.refl _ _) _)
theorem samePol_to {w : World} {a1 a2 b1 b2 : Option Addr} {c1 c2 d1 d2 : Nat} {p q : Pl} {b : Bool} (h : plSame p q = b) (P1 : PRow w a1 p.bands.length c1 p.bands) (P2 : PRow w a2 p.slots.length c2 p.slots) (Q1 : PRow w b1 q.bands.length d1 q.bands) (Q2 : PRow w b2 q.slots.length d2 q.slots) :
    Calls Try.prog 18 #[plV p a1 a2 c1 c2, plV q b1 b2 d1 d2] w fun e w' => e = .returned (.bool b) ∧ Below w.heap.size w w' := by
  subst h; exact samePol_any p q P1 P2 Q1 Q2
theorem e6_mem {w : World} {g : Nat} (h : Hd3 w g) : EvM w (some ⟨g, 0, none⟩) none none 2 0 0 E6 := ⟨h.row, PRow.nil_, Sl.nil_, e6_64⟩
set_option linter.unusedSimpArgs false in
set_option maxRecDepth 100000 in
set_option maxHeartbeats 6400000 in
theorem head_any (w : World) :
    Calls Try.prog 5 #[] w fun e w' => e = .returned (.bool true) ∧ Below w.heap.size w w' := by
  go_enter Try.func5, Try.ntmps5
  go_wp2_with fail
  refine (put_to hd_p1 (evm_lit e1_64 rfl rfl rfl) (by decide)).mono ?_
  rintro r w1 ⟨a, c, rfl, hs, hb⟩
  have K1 := Lib.hid (Hd1.mk hb hs)
  clear hs hb
  rw [show B1.length = 4 from rfl]
  go_wp2_with fail
  refine (get_to hd_g1 (by decide) K1.out.bytes (by decide)).mono ?_
  rintro r w2 ⟨d1, d2, d3, f1, f2, f3, rfl, hm, hb⟩
  obtain ⟨w3, e3, v3, b3⟩ := new_var hm
  have K3 := Lib.hid (Hd2.mk ((K1.out.on hb).on b3) v3)
  have HE := Lib.hid e3
  clear hm hb v3 b3 e3 K1
  have hown0 : OwnB (w3.alloc (.cells #[] 5)) w3.heap.size 5 (.slice (some ⟨w3.heap.size, 0, none⟩) 0 0) [] := OwnB.lit _ [] (Nat.le_refl _) (by decide)
  have hs2 := K3.out.h1.bytes.below ((Below.refl _ w3).alloc (Nat.le_refl _) (.cells #[] 5)) (Nat.le_refl _)
  go_wp2_with (first
    | (refine wpList_store_mid (by rfl) 30 (.tmp 2) (.tmp 21) (by rfl) w2.heap.size 0 (evC E1 d1 d2 d3 f1 f2 f3) (by rfl) (by rfl) (there_new _ _) (by kernel_rfl) (by kernel_rfl) ?_; rw [HE.out])
    | (at_builtin; refine wpList_append_sl rfl (.tmp 24) (.tmp 25) _ rfl w3.heap.size _ Try.underlying28 info_u8 (.slice (some ⟨w3.heap.size, 0, none⟩) 0 0) [] rfl hown0 _ a 4 c B1 rfl hs2 (by decide) (by simp) ?_; intro v1 w4 ho1 hg1 hat1)
    | (at_builtin; refine wpList_append_sl rfl (.tmp 26) (.tmp 27) _ rfl w3.heap.size _ Try.underlying28 info_u8 v1 _ rfl (ho1.alloc _) _ (some ⟨w4.heap.size, 0, none⟩) 1 1 [0] rfl (Sl.one w4 _ (by decide)) (by decide) (by have := hg1.size; simp at this ⊢; omega) ?_; intro v2 w5 ho2 hg2 hat2))
  have hB4 : Below w3.heap.size w3 w5 := ((((Below.refl _ w3).alloc (Nat.le_refl _) _).grown hg1 (by simp) (fun k hk => by simp [Value.ownBlock] at hk; omega)).alloc (by have := hg1.size; simp at this; omega) _).grown hg2 (by have := hg1.size; simp at this ⊢; omega) (fun k hk => (ho1.at_base hk).1)
  obtain ⟨a2, c2, hv2, hs2'⟩ := ho2.sl (by decide)
  rw [List.nil_append] at hv2 hs2'
  rw [show (B1 ++ [0] : List Nat).length = 5 from rfl] at hv2 hs2'
  subst hv2
  have K5 := Lib.hid (K3.out.on hB4)
  have S5 := Lib.hid hs2'
  clear ho1 hg1 hat1 ho2 hg2 hat2 hown0 hs2 K3 hB4 hs2' HE
  refine (get_to hd_g2 (by decide) S5.out (by decide)).mono ?_
  rintro r w6 ⟨x1, x2, x3, y1, y2, y3, rfl, hm, hb⟩
  obtain ⟨w7, e7, v7, b7⟩ := new_var hm
  have K7 := Lib.hid ((K5.out.on hb).on b7)
  have HE7 := Lib.hid e7
  clear hm hb v7 b7 e7 K5 S5
  go_wp2_with (first | (refine wpList_store_mid (by rfl) 30 (.tmp 4) (.tmp 30) (by rfl) w6.heap.size 0 (evC (ofKind 0) x1 x2 x3 y1 y2 y3) (by rfl) (by rfl) (there_new _ _) (by kernel_rfl) (by kernel_rfl) ?_; rw [HE7.out]))
  refine (get_to hd_g3 (by decide) K7.out.h1.bytes (by decide)).mono ?_
  rintro r w8 ⟨x1, x2, x3, y1, y2, y3, rfl, hm, hb⟩
  obtain ⟨w9, e9, v9, b9⟩ := new_var hm
  have K9 := Lib.hid ((K7.out.on hb).on b9)
  have HE9 := Lib.hid e9
  clear hm hb v9 b9 e9 K7
  go_wp2_with (first | (refine wpList_store_mid (by rfl) 30 (.tmp 6) (.tmp 35) (by rfl) w8.heap.size 0 (evC (ofKind 0) x1 x2 x3 y1 y2 y3) (by rfl) (by rfl) (there_new _ _) (by kernel_rfl) (by kernel_rfl) ?_; rw [HE9.out]))
  refine (get_to hd_g5 (by decide) (Sl.new (bs := B5) (heap_alloc_new _ _) (by rfl) (by decide) 9 rfl (by decide)) (by decide)).mono ?_
  rintro r wA ⟨x1, x2, x3, y1, y2, y3, rfl, hm, hb⟩
  obtain ⟨wB, eB, vB, bB⟩ := new_var hm
  have KB := Lib.hid ((K9.out.on (bel2 (bel1 (Below.refl _ _) _) hb)).on bB)
  have HEB := Lib.hid eB
  clear hm hb vB bB eB K9
  go_wp2_with (first | (refine wpList_store_mid (by rfl) 30 (.tmp 8) (.tmp 40) (by rfl) wA.heap.size 0 (evC (ofKind 0) x1 x2 x3 y1 y2 y3) (by rfl) (by rfl) (there_new _ _) (by kernel_rfl) (by kernel_rfl) ?_; rw [HEB.out]))
  refine (put_to hd_p6 (e6_mem (p6_new wB).1) (by decide)).mono ?_
  rintro r wC ⟨b6, c6, rfl, hs, hb⟩
  have KC := Lib.hid (KB.out.on (bel2 (p6_new wB).2 hb))
  have PC := Lib.hid ((p6_new wB).1.on hb)
  have S6 := Lib.hid hs
  clear hs hb KB HEB
  have hl6 := Lib.hid (right_code e6_r e6_64)
  go_wp2_with fail
  refine (get_to hd_g6 (by decide) S6.out (by have := hl6.out; omega)).mono ?_
  rintro r wD ⟨g1, g2, g3, h1, h2, h3, rfl, hm, hb⟩
  obtain ⟨wE, eE, vE, bE⟩ := new_var hm
  have KE := Lib.hid ((KC.out.on hb).on bE)
  have PE := Lib.hid ((PC.out.on hb).on bE)
  have VE := Lib.hid vE
  have HEE := Lib.hid eE
  clear hm hb vE bE eE KC PC S6 hl6
  go_wp2_with (first | (refine wpList_store_mid (by rfl) 30 (.tmp 12) (.tmp 52) (by rfl) wD.heap.size 0 (evC E6 g1 g2 g3 h1 h2 h3) (by rfl) (by rfl) (there_new _ _) (by kernel_rfl) (by kernel_rfl) ?_; rw [HEE.out]))
  refine (put_to hd_p7 (evm_lit e7_64 rfl rfl rfl) (by decide)).mono ?_
  rintro r wF ⟨a7, c7, rfl, _, hb⟩
  rw [show ([] : List Nat).length = 0 from rfl]
  have KF := Lib.hid (KE.out.on hb)
  have PF := Lib.hid (PE.out.on hb)
  have VF := Lib.hid (VE.out.on hb)
  clear hb KE PE VE HEE
  go_wp2_with fail
  refine (put_to hd_p8 (evm_lit e8_64 rfl rfl rfl) (by decide)).mono ?_
  rintro r wG ⟨a8, c8, rfl, _, hb⟩
  rw [show B8.length = 9 from rfl]
  have KG := Lib.hid (KF.out.on hb)
  have PG := Lib.hid (PF.out.on hb)
  have VG := Lib.hid (VF.out.on hb)
  clear hb KF PF VF
  have q1 := run_strv KG.out.h1.bytes
  rw [str_b1] at q1
  repeat (first | (refine wpList_load_rowG (by first | rfl | kernel_rfl | (simp [Region.wanted, yielded])) 30 (.tmp 2) (by rfl) w2.heap.size (by rfl) 30 (evC E1 d1 d2 d3 f1 f2 f3) (0, 0) _ KG.out.ev.cells Try.underlying30 (by rfl) (by kernel_rfl) ?_) | go_values | go_skip | go_guarded | go_step | go_upon | go_back | (simp only [Int.not_lt, Int.not_le] at *; go_simp))
  refine (same_to (evSame_iff.2 rfl) KG.out.ev.mem (evm_lit e1_64 rfl rfl rfl)).mono ?_
  rintro r wH ⟨rfl, hb⟩
  have BH := Lib.hid (bel2 KG.out.h1.below hb)
  have PH := Lib.hid (PG.out.on hb)
  have VH := Lib.hid (VG.out.on hb)
  clear hb KG PG VG q1
  have x6 : wH.cell? ⟨wD.heap.size, 6, none⟩ = some (.int .i64 2) := evC_cell VH.out.cells 6 _ rfl
  have x7 : wH.cell? ⟨wD.heap.size, 7, none⟩ = some (.int .i64 0) := evC_cell VH.out.cells 7 _ rfl
  have x8 : wH.cell? ⟨wD.heap.size, 8, none⟩ = some (.slice g1 2 h1) := evC_cell VH.out.cells 8 _ rfl
  have x9 : wH.cell? ⟨wD.heap.size, 9, none⟩ = some (.int .i64 0) := evC_cell VH.out.cells 9 _ rfl
  have x10 : wH.cell? ⟨wD.heap.size, 10, none⟩ = some (.int .i64 0) := evC_cell VH.out.cells 10 _ rfl
  have x11 : wH.cell? ⟨wD.heap.size, 11, none⟩ = some (.int .i64 0) := evC_cell VH.out.cells 11 _ rfl
  have x12 : wH.cell? ⟨wD.heap.size, 12, none⟩ = some (.int .i64 0) := evC_cell VH.out.cells 12 _ rfl
  have x13 : wH.cell? ⟨wD.heap.size, 13, none⟩ = some (.slice g2 0 h2) := evC_cell VH.out.cells 13 _ rfl
  have p0 : wH.cell? ⟨wB.heap.size + 1, 0, none⟩ = some (.int .i64 2) := (cell_of_row _ _ 0 _ _ _ PH.out.pol).trans rfl
  have p1 : wH.cell? ⟨wB.heap.size + 1, 1, none⟩ = some (.int .i64 0) := (cell_of_row _ _ 1 _ _ _ PH.out.pol).trans rfl
  have p2 : wH.cell? ⟨wB.heap.size + 1, 2, none⟩ = some (.slice (some ⟨wB.heap.size, 0, none⟩) 2 2) := (cell_of_row _ _ 2 _ _ _ PH.out.pol).trans rfl
  have p3 : wH.cell? ⟨wB.heap.size + 1, 3, none⟩ = some (.int .i64 0) := (cell_of_row _ _ 3 _ _ _ PH.out.pol).trans rfl
  have p4 : wH.cell? ⟨wB.heap.size + 1, 4, none⟩ = some (.int .i64 0) := (cell_of_row _ _ 4 _ _ _ PH.out.pol).trans rfl
  have p5 : wH.cell? ⟨wB.heap.size + 1, 5, none⟩ = some (.int .i64 0) := (cell_of_row _ _ 5 _ _ _ PH.out.pol).trans rfl
  have p6 : wH.cell? ⟨wB.heap.size + 1, 6, none⟩ = some (.int .i64 0) := (cell_of_row _ _ 6 _ _ _ PH.out.pol).trans rfl
  have p7 : wH.cell? ⟨wB.heap.size + 1, 7, none⟩ = some (.slice none 0 0) := (cell_of_row _ _ 7 _ _ _ PH.out.pol).trans rfl
  go_wp2_with fail
  refine (samePol_to (p := P6) (q := P6) (a1 := g1) (c1 := h1) (a2 := g2) (c2 := h2) (b1 := some ⟨wB.heap.size, 0, none⟩) (d1 := 2) (b2 := none) (d2 := 0) (plSame_iff.2 rfl) VH.out.mem.bands VH.out.mem.slots PH.out.row PRow.nil_).mono ?_
  rintro r wI ⟨rfl, hb⟩
  have BI := Lib.hid (bel2 BH.out hb)
  have PI := Lib.hid (PH.out.on hb)
  clear hb BH PH VH x6 x7 x8 x9 x10 x11 x12 x13 p0 p1 p2 p3 p4 p5 p6 p7
  go_wp2_with fail
  refine (plain_any _).mono ?_
  rintro r wJ ⟨rfl, hb⟩
  have BJ := Lib.hid (bel2 BI.out hb)
  have PJ := Lib.hid (PI.out.on hb)
  clear hb BI PI
  go_wp2_with fail
  refine (conf_to (c := CP) (b := true) (by kernel_rfl)).mono ?_
  rintro r wK ⟨rfl, hb⟩
  have BK := Lib.hid (bel2 BJ.out hb)
  have PK := Lib.hid (PJ.out.on hb)
  clear hb BJ PJ
  go_wp2_with fail
  refine (conf_to (c := zeroCf) (b := false) (by kernel_rfl)).mono ?_
  rintro r wL ⟨rfl, hb⟩
  have BL := Lib.hid (bel2 BK.out hb)
  have PL := Lib.hid (PK.out.on hb)
  clear hb BK PK
  have p0 : wL.cell? ⟨wB.heap.size + 1, 0, none⟩ = some (.int .i64 2) := (cell_of_row _ _ 0 _ _ _ PL.out.pol).trans rfl
  have p1 : wL.cell? ⟨wB.heap.size + 1, 1, none⟩ = some (.int .i64 0) := (cell_of_row _ _ 1 _ _ _ PL.out.pol).trans rfl
  have p2 : wL.cell? ⟨wB.heap.size + 1, 2, none⟩ = some (.slice (some ⟨wB.heap.size, 0, none⟩) 2 2) := (cell_of_row _ _ 2 _ _ _ PL.out.pol).trans rfl
  have p3 : wL.cell? ⟨wB.heap.size + 1, 3, none⟩ = some (.int .i64 0) := (cell_of_row _ _ 3 _ _ _ PL.out.pol).trans rfl
  have p4 : wL.cell? ⟨wB.heap.size + 1, 4, none⟩ = some (.int .i64 0) := (cell_of_row _ _ 4 _ _ _ PL.out.pol).trans rfl
  have p5 : wL.cell? ⟨wB.heap.size + 1, 5, none⟩ = some (.int .i64 0) := (cell_of_row _ _ 5 _ _ _ PL.out.pol).trans rfl
  have p6 : wL.cell? ⟨wB.heap.size + 1, 6, none⟩ = some (.int .i64 0) := (cell_of_row _ _ 6 _ _ _ PL.out.pol).trans rfl
  have p7 : wL.cell? ⟨wB.heap.size + 1, 7, none⟩ = some (.slice none 0 0) := (cell_of_row _ _ 7 _ _ _ PL.out.pol).trans rfl
  go_wp2_with fail
  refine (pol_to (p := P6) (b := true) (a1 := some ⟨wB.heap.size, 0, none⟩) (c1 := 2) (a2 := none) (c2 := 0) (by kernel_rfl) PL.out.row PRow.nil_).mono ?_
  rintro r wM ⟨rfl, hb⟩
  have BM := Lib.hid (bel2 BL.out hb)
  have PM := Lib.hid (PL.out.on hb)
  clear hb BL PL p0 p1 p2 p3 p4 p5 p6 p7
  have p2 : wM.cell? ⟨wB.heap.size + 1, 2, none⟩ = some (.slice (some ⟨wB.heap.size, 0, none⟩) 2 2) := (cell_of_row _ _ 2 _ _ _ PM.out.pol).trans rfl
  go_wp2_with fail
  refine (pol_to (p := ⟨2, 1, [(0, -1), (800, 2)], 0, 0, 0, 0, []⟩) (b := false) (a1 := some ⟨wB.heap.size, 0, none⟩) (c1 := 2) (a2 := none) (c2 := 0) (by kernel_rfl) PM.out.row PRow.nil_).mono ?_
  rintro r wN ⟨rfl, hb⟩
  have BN := Lib.hid (bel2 BM.out hb)
  clear hb BM PM p2
  go_wp2_with fail
  refine (right_to (e := E9) e9_r (evm_lit (ev64_of (by decide) rfl) rfl rfl rfl)).mono ?_
  rintro r wO ⟨rfl, hb⟩
  have BO := Lib.hid (bel2 BN.out hb)
  clear hb BN
  go_wp2_with fail
  refine (right_to (e := EA) ea_r (evm_lit (ev64_of (by decide) rfl) rfl rfl rfl)).mono ?_
  rintro r wP ⟨rfl, hb⟩
  have BP := Lib.hid (bel2 BO.out hb)
  clear hb BO
  go_wp2
  go_ret
  exact ⟨rfl, BP.out⟩
end Go.Proofs.Ytnpakjdgcmbcnaa

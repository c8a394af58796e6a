/- The head of the statements on segments: its fixed answers. -/
import Derived.Test.YtiiellclnmakpaaDoorSgC
import Derived.Test.YtiiellclnmakpaaDoorFrR
import Derived.Lib.SlBytesConst
namespace Go.Proofs.YtiiellclnmakpaaDoor
open Go.RowKit Go.Shelf
open Crc Frm
open Sgn

def G1 : Fr := ⟨1, 12, [97]⟩
def G2 : Fr := ⟨1, 13, []⟩
def H12 : List Nat := [71, 79, 86, 49, 0, 0, 0, 12, 187, 25, 39, 250]
def P1 : List Nat := [0, 1, 1, 0, 0, 0, 12, 97, 158, 9, 25, 186]
def P2 : List Nat := [0, 0, 1, 0, 0, 0, 13, 222, 189, 138, 115]
def B35 : List Nat := H12 ++ P1 ++ P2
theorem sh_head : head 12 = H12 := by decide +kernel
theorem sh_put1 : put G1 = P1 := by decide +kernel
theorem sh_put2 : put G2 = P2 := by decide +kernel
theorem sh_rd1 : rd (B35 ++ [0, 1]) = (12, [G1, G2], 35, 0) := by decide +kernel
theorem sh_rd2 : rd (H12.take 11) = (0, [], 0, 13) := by decide +kernel
theorem sh_idx1 : idx B35 1 = [(12, 12), (13, 24)] := by decide +kernel
theorem sh_idx0 : idx B35 0 = [] := by decide +kernel
theorem sh_fnd : fnd (tolds B35 12) 13 = some G2 := by decide +kernel
theorem sh_nm : nm 12 = [115, 48, 48, 48, 48, 48, 48, 48, 48, 49, 50] := by decide +kernel
theorem sh_nm0 : nm (-1) = [] := by decide +kernel
theorem sh_fst1 : fst [115, 48, 48, 48, 48, 48, 48, 48, 48, 49, 50] = (12, true) := by decide +kernel
theorem sh_fst2 : fst [115, 49, 50] = (0, false) := by decide +kernel
theorem B35_byte : ∀ c ∈ B35, c < 256 := by decide

theorem h_head (w : World) : Calls Tryd.prog 11 #[.int .i64 12] w fun e w' => ∃ a cap, e = .returned (.slice a 12 cap) ∧ Sl w' w'.heap.size a 12 cap H12 ∧ Below w.heap.size w w' :=
  (segHead_yes 12 (by decide) w).mono fun e w' h => by
    obtain ⟨v, rfl, ho, hb⟩ := h
    rw [sh_head] at ho
    obtain ⟨a, cap, rfl, hs⟩ := ho.sl (by decide)
    exact ⟨a, cap, rfl, hs, hb⟩
theorem h_put1 (w : World) : Calls Tryd.prog 14 #[.agg #[.int .i64 1, .int .i64 12, .slice (some ⟨w.heap.size, 0, none⟩) 1 1]] (w.alloc (.cells #[.int .u8 97] 5 (1, 2))) fun e w' => ∃ a cap, e = .returned (.slice a 12 cap) ∧ Sl w' w'.heap.size a 12 cap P1 ∧ Below (w.alloc (.cells #[.int .u8 97] 5 (1, 2))).heap.size (w.alloc (.cells #[.int .u8 97] 5 (1, 2))) w' :=
  (rput_any G1 _ 1 _ (Sl.new (heap_alloc_new _ _) (by rfl) (by decide) 1 rfl (by decide))).mono fun e w' h => by
    obtain ⟨v, rfl, ho, hb⟩ := h
    rw [sh_put1] at ho
    obtain ⟨a, cap, rfl, hs⟩ := ho.sl (by decide)
    exact ⟨a, cap, rfl, hs, hb⟩
theorem h_put2 (w : World) : Calls Tryd.prog 14 #[.agg #[.int .i64 1, .int .i64 13, .slice none 0 0]] w fun e w' => ∃ a cap, e = .returned (.slice a 11 cap) ∧ Sl w' w'.heap.size a 11 cap P2 ∧ Below w.heap.size w w' :=
  (rput_any G2 none 0 w Sl.nil_).mono fun e w' h => by
    obtain ⟨v, rfl, ho, hb⟩ := h
    rw [sh_put2] at ho
    obtain ⟨a, cap, rfl, hs⟩ := ho.sl (by decide)
    exact ⟨a, cap, rfl, hs, hb⟩
theorem h_read1 (r : Option Addr) (cr : Nat) (w : World) (hs : Sl w w.heap.size r 37 cr (B35 ++ [0, 1])) : Calls Tryd.prog 7 #[.slice r 37 cr] w fun e w' => ∃ va vc, e = .returned (.tuple #[.int .i64 12, .slice va 2 vc, .int .i64 35, .int .i64 0]) ∧ Below w.heap.size w w' :=
  (segRead_of sh_rd1 r 37 cr w hs (by decide)).mono fun e w' h => by
    obtain ⟨va, vc, rfl, _, hb⟩ := h
    exact ⟨va, vc, rfl, hb⟩
theorem h_read2 (r : Option Addr) (cr : Nat) (w : World) (hs : Sl w w.heap.size r 11 cr (H12.take 11)) : Calls Tryd.prog 7 #[.slice r 11 cr] w fun e w' => ∃ va vc, e = .returned (.tuple #[.int .i64 0, .slice va 0 vc, .int .i64 0, .int .i64 13]) ∧ Below w.heap.size w w' :=
  (segRead_of sh_rd2 r 11 cr w hs (by decide)).mono fun e w' h => by
    obtain ⟨va, vc, rfl, _, hb⟩ := h
    exact ⟨va, vc, rfl, hb⟩
theorem run_cut_sp (a : Option Addr) (len cap k : Nat) (hk : k ≤ cap) (w : World) :
    (Instr.slice 37 (.slice a len cap) none (some (.int .i64 (k : Int))) none).run Tryd.prog w = .ok (.slice a k cap) w := by
  obtain ⟨i, hi, _, hz1, _⟩ := info_parts info_spot
  have hs : (sizeOf 43).run Tryd.prog w = .ok 2 w := by simp [sizeOf, typeInfo, hi, hz1]
  have ht' : Tryd.prog.underlying 37 = some (.slice (Tryd.prog.elem 37)) := by simp [Program.elem, Tryd.underlying37]
  have he : Tryd.prog.elem 37 = 43 := by simp [Program.elem, Tryd.underlying37]
  rw [run_slice_h w 37 _ _ _ ht' .i64 _ (by omega) (by omega), he, hs]
  have ha : a.map (fun x => x.add 0) = a := by cases a <;> simp [Addr.add]
  simp [Result.andThen, sliced, ha]
theorem Spts.take1 {w : World} {B : Nat} {a : Option Addr} {len cap : Nat} {x : Int × Int} {l : List (Int × Int)} (h : Spts w B a (len + 1) cap (x :: l)) : Spts w B a 1 cap [x] :=
  ⟨rfl, by have := h.le; omega, h.max, fun _ => by
    obtain ⟨b, o, e, hlt, hc⟩ := h.at_ (by omega)
    refine ⟨b, o, e, hlt, fun k y hk => ?_⟩
    cases k with
    | zero => simp at hk; subst hk; exact hc 0 x rfl
    | succ k => simp at hk⟩
theorem Spts.lit (w : World) : Spts (w.alloc (.cells #[.int .i64 12, .int .i64 12, .int .i64 13, .int .i64 24] 43)) (w.alloc (.cells #[.int .i64 12, .int .i64 12, .int .i64 13, .int .i64 24] 43)).heap.size (some ⟨w.heap.size, 0, none⟩) 2 2 [(12, 12), (13, 24)] :=
  ⟨rfl, Nat.le_refl _, by decide, fun _ => ⟨w.heap.size, 0, rfl, by simp, fun k x hk => by
    have hh := heap_alloc_new w (.cells #[.int .i64 12, .int .i64 12, .int .i64 13, .int .i64 24] 43)
    match k, hk with
    | 0, hk => simp at hk; subst hk; exact ⟨(cell_of_row _ _ 0 _ _ _ hh).trans rfl, (cell_of_row _ _ 1 _ _ _ hh).trans rfl⟩
    | 1, hk => simp at hk; subst hk; exact ⟨(cell_of_row _ _ 2 _ _ _ hh).trans rfl, (cell_of_row _ _ 3 _ _ _ hh).trans rfl⟩
    | k + 2, hk => simp at hk⟩⟩
theorem h_same (x : Option Addr) (xc : Nat) (w : World) (hx : Spts w w.heap.size x 2 xc [(12, 12), (13, 24)]) : Calls Tryd.prog 17 #[.slice x 2 xc, .slice (some ⟨w.heap.size, 0, none⟩) 2 2] (w.alloc (.cells #[.int .i64 12, .int .i64 12, .int .i64 13, .int .i64 24] 43)) fun e w' => e = .returned (.bool true) ∧ Below w.heap.size w w' :=
  (spots_any x 2 xc [(12, 12), (13, 24)] _ 2 2 [(12, 12), (13, 24)] _ ((hx.below ((Below.refl _ w).alloc (Nat.le_refl _) _) (Nat.le_refl _)).more (by simp)) (Spts.lit w)).mono fun e w' h => by
    obtain ⟨rfl, hb⟩ := h
    exact ⟨rfl, ((Below.refl _ w).alloc (Nat.le_refl _) _).trans (hb.mono (by simp))⟩
theorem h_idx1 (a : Option Addr) (cap : Nat) (w : World) (hs : Sl w w.heap.size a 35 cap B35) : Calls Tryd.prog 15 #[.slice a 35 cap, .int .i64 1] w fun e w' => ∃ x xc, e = .returned (.slice x 2 xc) ∧ Spts w' w'.heap.size x 2 xc [(12, 12), (13, 24)] ∧ Below w.heap.size w w' :=
  (index_any a 35 cap B35 1 (by decide) w hs (by decide)).mono fun e w' h => by
    obtain ⟨v, rfl, ho, hb⟩ := h
    rw [sh_idx1] at ho
    obtain ⟨x, xc, rfl, hx⟩ := ho.spts
    exact ⟨x, xc, rfl, hx, hb⟩
theorem h_idx0 (a : Option Addr) (cap : Nat) (w : World) (hs : Sl w w.heap.size a 35 cap B35) : Calls Tryd.prog 15 #[.slice a 35 cap, .int .i64 0] w fun e w' => ∃ x xc, e = .returned (.slice x 0 xc) ∧ Below w.heap.size w w' :=
  (index_any a 35 cap B35 0 (by decide) w hs (by decide)).mono fun e w' h => by
    obtain ⟨v, rfl, ho, hb⟩ := h
    rw [sh_idx0] at ho
    obtain ⟨x, xc, rfl, hx⟩ := ho.spts
    exact ⟨x, xc, rfl, hb⟩
theorem bg_one {at_ : Int} {is : Bool} (h : Bg [(12, 12)] 13 at_ is) : at_ = 12 ∧ is = true := by
  rcases h with ⟨h1, k, x, h2, _, h4, _⟩ | ⟨_, _, h⟩
  · cases k with
    | zero => simp at h2; subst h2; exact ⟨h4, h1⟩
    | succ k => simp at h2
  · have := h 0 (12, 12) rfl
    simp at this
theorem h_find (a : Option Addr) (cap : Nat) (x : Option Addr) (xc : Nat) (w : World) (hs : Sl w w.heap.size a 35 cap B35) (hx : Spts w w.heap.size x 1 xc [(12, 12)]) : Calls Tryd.prog 16 #[.slice a 35 cap, .slice x 1 xc, .int .i64 13] w fun e w' => ∃ p pc, e = .returned (.tuple #[.agg #[.int .i64 1, .int .i64 13, .slice p 0 pc], .bool true]) ∧ Below w.heap.size w w' :=
  (callsIn_wide.1 (find_in Fence.wide rfl 12 (Nat.le_refl _) a 35 cap B35 x 1 xc [(12, 12)] (by decide) 13 w hs hx)).mono fun e w' h => by
    obtain ⟨at_, is, hB, hF⟩ := h
    obtain ⟨rfl, rfl⟩ := bg_one hB
    rw [if_pos ⟨rfl, by decide, by decide⟩] at hF
    obtain ⟨p, pc, rfl, _, hb⟩ := hF
    rw [show (12 : Int).toNat = 12 from rfl, sh_fnd]
    exact ⟨p, pc, rfl, hb⟩
theorem h_name (w : World) (hL : Laid w) : Calls Tryd.prog 9 #[.int .i64 12] w fun e w' => e = .returned (.string { data := #[115, 48, 48, 48, 48, 48, 48, 48, 48, 49, 50] }) ∧ Below w.heap.size w w' :=
  (name_any 12 w hL).mono fun e w' h => ⟨by rw [h.1, sh_nm], h.2⟩
theorem h_name0 (w : World) (hL : Laid w) : Calls Tryd.prog 9 #[.int .i64 (-1)] w fun e w' => e = .returned (.string { data := #[] }) ∧ Below w.heap.size w w' :=
  (name_any (-1) w hL).mono fun e w' h => ⟨by rw [h.1, sh_nm0], h.2⟩
theorem h_first1 (w : World) (hL : Laid w) : Calls Tryd.prog 5 #[.string { data := #[115, 48, 48, 48, 48, 48, 48, 48, 48, 49, 50] }] w fun e w' => e = .returned (.tuple #[.int .i64 12, .bool true]) ∧ Below w.heap.size w w' :=
  (segFirst_any _ (by decide) w hL).mono fun e w' h => ⟨by rw [h.1, show ({ data := #[115, 48, 48, 48, 48, 48, 48, 48, 48, 49, 50] } : ByteArray).data.toList = [115, 48, 48, 48, 48, 48, 48, 48, 48, 49, 50] from rfl, sh_fst1], h.2⟩
theorem h_first2 (w : World) (hL : Laid w) : Calls Tryd.prog 5 #[.string { data := #[115, 49, 50] }] w fun e w' => e = .returned (.tuple #[.int .i64 0, .bool false]) ∧ Below w.heap.size w w' :=
  (segFirst_any _ (by decide) w hL).mono fun e w' h => ⟨by rw [h.1, show ({ data := #[115, 49, 50] } : ByteArray).data.toList = [115, 49, 50] from rfl, sh_fst2], h.2⟩

/-- What the head keeps. -/
structure HK1 (w w' : World) (a : Option Addr) (cap : Nat) : Prop where
  below : Below w.heap.size w w'
  hd : Sl w' w'.heap.size a 12 cap H12
  laid : Laid w'
theorem HK1.on {w w1 w2 : World} {a : Option Addr} {cap : Nat} (h : HK1 w w1 a cap) (hb : Below w1.heap.size w1 w2) : HK1 w w2 a cap :=
  ⟨h.below.trans (hb.mono h.below.size), (h.hd.below hb (Nat.le_refl _)).more hb.size, h.laid.on hb⟩
structure HK2 (w w' : World) (a : Option Addr) (cap : Nat) (b : Option Addr) (cb : Nat) : Prop where
  one : HK1 w w' a cap
  bs : Sl w' w'.heap.size b 35 cb B35
theorem HK2.on {w w1 w2 : World} {a b : Option Addr} {cap cb : Nat} (h : HK2 w w1 a cap b cb) (hb : Below w1.heap.size w1 w2) : HK2 w w2 a cap b cb :=
  ⟨h.one.on hb, (h.bs.below hb (Nat.le_refl _)).more hb.size⟩

set_option maxRecDepth 100000 in
set_option maxHeartbeats 3200000 in
theorem shead_any (w : World) (hL : Laid w) :
    Calls Tryd.prog 4 #[] w fun e w' => e = .returned (.bool true) ∧ Below w.heap.size w w' := by
  go_enter Tryd.func4, Tryd.ntmps4
  go_upto_region 4 with (go_at_call 11; refine (h_head w).mono ?_; rintro e w1 ⟨a, cap, rfl, hs1, hb1⟩)
  have K1 := Lib.hid (HK1.mk hb1 hs1 (hL.on hb1))
  clear hb1 hs1 hL
  have hown0 : OwnB (w1.alloc (.cells #[] 5)) w1.heap.size 5 (.slice (some ⟨w1.heap.size, 0, none⟩) 0 0) [] := OwnB.lit _ [] (Nat.le_refl _) (by decide)
  have hs2 := (K1.out.on ((Below.refl _ w1).alloc (Nat.le_refl _) (.cells #[] 5))).hd
  have HS2 := Lib.hid hs2
  have HO := Lib.hid hown0
  clear hs2 hown0
  have kc := fun (w : World) (C : Array Value) (n c : Nat) => Lib.run_convert_bytes_const (P := Tryd.prog) w 22 5 C n c Tryd.underlying22 Tryd.underlying5
  go_upto_region 5 with (first
    | (at_builtin; refine wpList_append_sl rfl (.tmp 22) (.tmp 23) _ rfl w1.heap.size _ Tryd.underlying22 info_u8 (.slice (some ⟨w1.heap.size, 0, none⟩) 0 0) [] rfl HO.out _ a 12 cap H12 rfl HS2.out (by decide) (by simp) ?_; intro v1 w2 ho1 hg1 hat1; have HX := Lib.hid (And.intro ho1 (((Below.refl _ w1).alloc (Nat.le_refl _) _).grown hg1 (by simp) (fun k hk => by simp [Value.ownBlock] at hk; omega))); clear ho1 hg1 hat1)
    | (go_at_call 14; (with_reducible refine (h_put1 _).mono ?_); rintro e w3 ⟨p1, pc1, rfl, hp1, hb3⟩; have HX3 := Lib.hid (And.intro ((HX.out.1.alloc _).below hb3) ((HX.out.2.alloc HX.out.2.size _).trans (hb3.mono (by have := HX.out.2.size; simp; omega)))); have HP := Lib.hid hp1; clear hp1 hb3)
    | (at_builtin; refine wpList_append_sl rfl (.tmp 24) (.tmp 28) _ rfl w1.heap.size _ Tryd.underlying22 info_u8 v1 _ rfl HX3.out.1 _ p1 12 pc1 P1 rfl HP.out (by decide) HX3.out.2.size ?_; intro v4 w4 ho4 hg4 _; have HX4 := Lib.hid (And.intro ho4 (HX3.out.2.grown hg4 HX3.out.2.size (fun k hk => (HX3.out.1.at_base hk).1))); clear ho4 hg4)
    | (go_at_call 14; (with_reducible refine (h_put2 _).mono ?_); rintro e w5 ⟨p2, pc2, rfl, hp2, hb5⟩; have HX5 := Lib.hid (And.intro (HX4.out.1.below hb5) (HX4.out.2.trans (hb5.mono HX4.out.2.size))); have HP2 := Lib.hid hp2; clear hp2 hb5)
    | (at_builtin; refine wpList_append_sl rfl (.tmp 29) (.tmp 31) _ rfl w1.heap.size _ Tryd.underlying22 info_u8 v4 _ rfl HX5.out.1 _ p2 11 pc2 P2 rfl HP2.out (by decide) HX5.out.2.size ?_; intro v6 w6 ho6 hg6 _; have HX6 := Lib.hid (And.intro ho6 (HX5.out.2.grown hg6 HX5.out.2.size (fun k hk => (HX5.out.1.at_base hk).1))); clear ho6 hg6))
  obtain ⟨b, cb, hv6, hs6⟩ := HX6.out.1.sl (by decide)
  rw [List.nil_append, show (H12 ++ P1 ++ P2).length = 35 from rfl] at hv6 hs6
  have hsb : Sl w6 w6.heap.size b 35 cb B35 := hs6
  have hv6' : v6 = .slice b 35 cb := hv6
  subst hv6'
  have K6 := Lib.hid (HK2.mk (K1.out.on HX6.out.2) hsb)
  clear hsb hs6 hv6 HX HX3 HX4 HX5 HX6 HP HP2 HO HS2 K1 kc
  have hown0 : OwnB (w6.alloc (.cells #[] 5)) w6.heap.size 5 (.slice (some ⟨w6.heap.size, 0, none⟩) 0 0) [] := OwnB.lit _ [] (Nat.le_refl _) (by decide)
  have hs7 := (K6.out.on ((Below.refl _ w6).alloc (Nat.le_refl _) (.cells #[] 5))).bs
  have HS2 := Lib.hid hs7
  have HO := Lib.hid hown0
  clear hs7 hown0
  go_upto_region 6 with (first
    | (at_builtin; refine wpList_append_sl rfl (.tmp 34) (.tmp 35) _ rfl w6.heap.size _ Tryd.underlying22 info_u8 (.slice (some ⟨w6.heap.size, 0, none⟩) 0 0) [] rfl HO.out _ b 35 cb B35 rfl HS2.out (by decide) (by simp) ?_; intro v7 w7 ho1 hg1 hat1; have HX := Lib.hid (And.intro ho1 (((Below.refl _ w6).alloc (Nat.le_refl _) _).grown hg1 (by simp) (fun k hk => by simp [Value.ownBlock] at hk; omega))); clear ho1 hg1 hat1)
    | (at_builtin; go_loud (refine wpList_append_sl rfl (.tmp 36) (.tmp 37) _ rfl w6.heap.size _ Tryd.underlying22 info_u8 v7 _ rfl (HX.out.1.alloc _) _ _ 2 2 [0, 1] rfl (Sl.new (heap_alloc_new _ _) (by rfl) (by decide) 2 rfl (by decide)) (by decide) (by have := HX.out.2.size; simp; omega) ?_; intro v8 w8 ho4 hg4 _; have HX4 := Lib.hid (And.intro ho4 ((HX.out.2.alloc HX.out.2.size _).grown hg4 (by have := HX.out.2.size; simp; omega) (fun k hk => (HX.out.1.at_base hk).1))); clear ho4 hg4; obtain ⟨r, cr, hv8, hs8⟩ := HX4.out.1.sl (by decide); rw [List.nil_append, show (B35 ++ ([0, 1] : List Nat)).length = 37 from rfl] at hv8 hs8; have hs8' : Sl w8 w8.heap.size r 37 cr (B35 ++ [0, 1]) := hs8; have hv8' : v8 = .slice r 37 cr := hv8; have HS8 := Lib.hid hs8'; subst hv8'; clear hv8 hs8 hs8'))
    | (go_at_call 7; (with_reducible refine (h_read1 _ _ _ HS8.out).mono ?_); rintro e w9 ⟨va, vc, rfl, hb⟩; have K9 := Lib.hid (K6.out.on (HX4.out.2.trans (hb.mono HX4.out.2.size))); clear hb))
  clear HS2 HO HX HX4 HS8 K6
  have c11 : ∀ w, (Instr.slice 22 (.slice a 12 cap) none (some (.int .i64 11)) none).run Tryd.prog w = .ok (.slice a 11 cap) w := run_cut_to (P := Tryd.prog) 22 5 Tryd.underlying22 info_u8 a 12 cap 11 (by have := K9.out.one.hd.le; omega)
  go_upto_region 7 with (go_at_call 7; (with_reducible refine (h_read2 _ _ _ (K9.out.one.hd.take (k := 11) (by decide))).mono ?_); rintro e w10 ⟨va2, vc2, rfl, hb⟩; have K10 := Lib.hid (K9.out.on hb); clear hb)
  clear K9 c11
  go_upto_region 8 with (go_at_call 5; (with_reducible refine (h_first1 _ K10.out.one.laid).mono ?_); rintro e w11 ⟨rfl, hb⟩; have K11 := Lib.hid (K10.out.on hb); clear hb)
  clear K10
  go_upto_region 9 with (go_at_call 5; (with_reducible refine (h_first2 _ K11.out.one.laid).mono ?_); rintro e w12 ⟨rfl, hb⟩; have K12 := Lib.hid (K11.out.on hb); clear hb)
  clear K11
  go_upto_region 10 with (go_at_call 15; (with_reducible refine (h_idx1 _ _ _ K12.out.bs).mono ?_); rintro e w13 ⟨x, xc, rfl, hx, hb⟩; have K13 := Lib.hid (K12.out.on hb); have X13 := Lib.hid hx; clear hb hx)
  clear K12
  have hmin : ∀ w, (Builtin.min_ #[3, 3] 3 #[.int .i64 2, .int .i64 1]).run Tryd.prog w = .ok (.int .i64 1) w := fun w => by kernel_rfl
  have c1 : ∀ w, (Instr.slice 37 (.slice x 2 xc) none (some (.int .i64 1)) none).run Tryd.prog w = .ok (.slice x 1 xc) w := run_cut_sp x 2 xc 1 (by have := X13.out.le; omega)
  have hst : ∀ (W : World), Sl W W.heap.size a 12 cap H12 → (convert 22 9 (.slice a 8 cap)).run Tryd.prog W = .ok (.string { data := #[71, 79, 86, 49, 0, 0, 0, 12] }) W := fun W h => run_str (h.take (k := 8) (by decide)) 22 5 9 Tryd.underlying22 Tryd.underlying5 Tryd.underlying9
  have HST := Lib.hid hst
  clear hst
  go_upto_region 11 with (go_at_call 16; (with_reducible refine (h_find _ _ _ _ _ K13.out.bs (X13.out.take1)).mono ?_); rintro e w14 ⟨q, qc, rfl, hb⟩; have K14 := Lib.hid (K13.out.on hb); have X14 := Lib.hid ((X13.out.below hb (Nat.le_refl _)).more hb.size); clear hb)
  have K15 := (K14.out.on ((Below.refl _ w14).alloc (Nat.le_refl _) (.cells #[.int .i64 1, .int .i64 13, .slice q 0 qc] 36)))
  have X15 : Spts (w14.alloc (.cells #[.int .i64 1, .int .i64 13, .slice q 0 qc] 36)) (w14.alloc (.cells #[.int .i64 1, .int .i64 13, .slice q 0 qc] 36)).heap.size x 2 xc [(12, 12), (13, 24)] := ((X14.out.below ((Below.refl _ w14).alloc (Nat.le_refl _) (.cells #[.int .i64 1, .int .i64 13, .slice q 0 qc] 36)) (Nat.le_refl _)).more (by simp))
  have F15 := (heap_alloc_new w14 (.cells #[.int .i64 1, .int .i64 13, .slice q 0 qc] 36))
  clear K13 X13 K14 X14 hmin c1
  generalize w14.alloc (.cells #[.int .i64 1, .int .i64 13, .slice q 0 qc] 36) = w15 at K15 X15 F15 ⊢
  have c8 : ∀ w, (Instr.slice 22 (.slice a 12 cap) none (some (.int .i64 8)) none).run Tryd.prog w = .ok (.slice a 8 cap) w := run_cut_to (P := Tryd.prog) 22 5 Tryd.underlying22 info_u8 a 12 cap 8 (by have := K15.one.hd.le; omega)
  have hst := HST.out w15 K15.one.hd
  have K15 := Lib.hid (And.intro K15 (And.intro X15 F15))
  clear HST X15 F15
  go_wp2_with (first
    | (go_at_call 9; (with_reducible refine (h_name _ K15.out.1.one.laid).mono ?_); rintro e w16 ⟨rfl, hb⟩; have K16 := Lib.hid (And.intro (K15.out.1.on hb) (And.intro ((K15.out.2.1.below hb (Nat.le_refl _)).more hb.size) ((hb.block _ (lt_of_heap K15.out.2.2)).trans K15.out.2.2))); clear hb)
    | (go_at_call 9; (with_reducible refine (h_name0 _ K16.out.1.one.laid).mono ?_); rintro e w17 ⟨rfl, hb⟩; have K17 := Lib.hid (And.intro (K16.out.1.on hb) (And.intro ((K16.out.2.1.below hb (Nat.le_refl _)).more hb.size) ((hb.block _ (lt_of_heap K16.out.2.2)).trans K16.out.2.2))); clear hb)
    | (go_at_call 17; (with_reducible refine (h_same _ _ _ K17.out.2.1).mono ?_); rintro e w18 ⟨rfl, hb⟩; have K18 := Lib.hid (And.intro (K17.out.1.on hb) ((hb.block _ (lt_of_heap K17.out.2.2)).trans K17.out.2.2)); have u1 := (cell_of_row w18 w14.heap.size 1 _ _ _ K18.out.2).trans rfl; clear hb)
    | (go_at_call 15; (with_reducible refine (h_idx0 _ _ _ K18.out.1.bs).mono ?_); rintro e w19 ⟨z, zc, rfl, hb⟩; have K19 := Lib.hid (K18.out.1.on hb); clear hb))
  go_ret
  exact ⟨rfl, K19.out.one.below⟩
end Go.Proofs.YtiiellclnmakpaaDoor

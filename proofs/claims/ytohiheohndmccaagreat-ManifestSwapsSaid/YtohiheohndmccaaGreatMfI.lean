/- The statements' live question. -/
import Derived.Test.YtohiheohndmccaaGreatMfH
import Derived.Test.YtohiheohndmccaaGreatMfS
namespace Go.Proofs.YtohiheohndmccaaGreat
open Go.RowKit Go.Sort
open Go.Maps
open Crc Frm
attribute [local go_sem] Oper.semAt_some

theorem OwnV.out {w : World} {base : Nat} {e : TypeId} {v : Value} {l : List Int} (h : OwnV w base e v (i64V l)) :
    ∃ a c, v = .slice a l.length c ∧ Row w w.heap.size a l.length c 1 (intsC l) ∧ ∀ k o, a = some ⟨k, o, none⟩ → base ≤ k := by
  have h0 := h
  rcases h.2 with ⟨h1, h2⟩ | ⟨g, cap, cur, h1, h2, h3, h4, h5, h6⟩
  · subst h1
    have hl : l = [] := by simpa using h2
    subst hl
    exact ⟨none, 0, rfl, ⟨Nat.le_refl _, by simp [maxLen], fun hn => absurd hn (by simp)⟩, fun k o hk => by cases hk⟩
  · subst h1
    have hn := h0.len
    rw [List.length_map] at hn
    have R := row_own h0
    have hm : (i64V l).length = l.length := List.length_map _
    rw [hm] at R
    refine ⟨_, cap, by rw [hm], R, fun k o hk => ?_⟩
    injection hk with hk
    injection hk with hk
    rw [← hk]
    exact h0.base_.1
/-- What lies not in a disk. -/
def Far (O : Nat → Prop) (a : Option Addr) (n : Nat) : Prop := 0 < n → ∀ k o, a = some ⟨k, o, none⟩ → ¬ O k
theorem Sl.mv {O O' : Nat → Prop} {w w' : World} {a : Option Addr} {n c : Nat} {bs : List Nat} (h : Sl w w.heap.size a n c bs ∧ Far O a n) (hb : But O w w') (hO : ∀ k, k < w.heap.size → ¬ O k → ¬ O' k) : Sl w' w'.heap.size a n c bs ∧ Far O' a n := by
  refine ⟨h.1.but hb h.2, fun hn k o hk => ?_⟩
  obtain ⟨b', o', e', hlt, _⟩ := h.1.at_ hn
  rw [hk] at e'
  injection e' with e'
  injection e' with e1
  exact hO k (by omega) (h.2 hn k o hk)
theorem Row.mv {O O' : Nat → Prop} {w w' : World} {a : Option Addr} {n c m : Nat} {cs : Nat → Value} (h : Row w w.heap.size a n c m cs ∧ Far O a n) (hb : But O w w') (hO : ∀ k, k < w.heap.size → ¬ O k → ¬ O' k) : Row w' w'.heap.size a n c m cs ∧ Far O' a n := by
  refine ⟨h.1.but hb h.2, fun hn k o hk => ?_⟩
  obtain ⟨b', o', e', hlt, _⟩ := h.1.at_ hn
  rw [hk] at e'
  injection e' with e'
  injection e' with e1
  exact hO k (by omega) (h.2 hn k o hk)
theorem Sl.on {w w' : World} {a : Option Addr} {n c : Nat} {bs : List Nat} (h : Sl w w.heap.size a n c bs) (hb : Below w.heap.size w w') : Sl w' w'.heap.size a n c bs := (h.below hb (Nat.le_refl _)).more hb.size
theorem Row.on {w w' : World} {a : Option Addr} {n c m : Nat} {cs : Nat → Value} (h : Row w w.heap.size a n c m cs) (hb : Below w.heap.size w w') : Row w' w'.heap.size a n c m cs := (h.below hb (Nat.le_refl _)).more hb.size
/-- A literal of numbers. -/
theorem lit_row (w : World) (l : List Int) (hm : l.length ≤ maxLen) : Row (w.alloc (.cells ((l.map fun x => Value.int .i64 x).toArray) 2)) (w.alloc (.cells ((l.map fun x => Value.int .i64 x).toArray) 2)).heap.size (some ⟨w.heap.size, 0, none⟩) l.length l.length 1 (intsC l) :=
  Row.new (heap_alloc_new w _) (fun j hj => by
    have hj' : j < l.length := by omega
    rw [List.getElem?_toArray, List.getElem?_map, List.getElem?_eq_getElem hj']
    simp only [intsC, List.getD_eq_getElem?_getD, List.getElem?_eq_getElem hj']
    rfl) hm

def mq (es : List (Lit × DataW Fl)) (fails : Int) : St := ⟨.map es, 100, -1, fails⟩
def mf (bs : List Nat) : Lit × DataW Fl := (.string mfL, .held ⟨bs, bs.length⟩)
theorem mh1 : mLoad (mq [] 0) = ([], 3) := by kernel_rfl
theorem mh2 : mSwap (mq [] 0) [5, 3] = (1, mq [] 0) := by kernel_rfl
theorem mh3 : mSwap (mq [] 0) [3, 5] = (0, mq [mf (mPut [3, 5])] 0) := by kernel_rfl
theorem mh4 : (mq [mf (mPut [3, 5])] 0).fail_ 1 = mq [mf (mPut [3, 5])] 1 := by kernel_rfl
theorem mh5 : mSwap (mq [mf (mPut [3, 5])] 1) [9] = (41, mq [mf (mPut [3, 5])] 0) := by kernel_rfl
theorem mh6 : mLoad (mq [mf (mPut [3, 5])] 0) = ([3, 5], 0) := by kernel_rfl
theorem mh7 : strKeys (mq [mf (mPut [3, 5])] 0).D = [mfL] := by kernel_rfl
theorem mh8 : mGet (mPut [0, 258]) = ([0, 258], 0) := by kernel_rfl
theorem mh9 : mGet ((mPut [0, 258]).take 6) = ([], 12) := by kernel_rfl
theorem mh10 : (mPut [0, 258]).length = 13 := by kernel_rfl
theorem mh11 : (mPut [0, 258]).take 9 = [2, 0, 0, 0, 0, 0, 0, 1, 2] := by kernel_rfl
theorem mh12 : mPut [] = [] := by kernel_rfl
set_option maxRecDepth 100000 in
set_option maxHeartbeats 6400000 in
theorem head5_any (w0 : World) : Calls Tryz.prog 4 #[] w0 fun e w' => e = .returned (.bool true) ∧ Below w0.heap.size w0 w' := by
  have N1 := Lib.hid (DK.new 100 (by decide) w0)
  have M1 := Lib.hid mh1
  have M2 := Lib.hid mh2
  have M3 := Lib.hid mh3
  have M4 := Lib.hid mh4
  have M5 := Lib.hid mh5
  have M6 := Lib.hid mh6
  have M7 := Lib.hid mh7
  go_enter Tryz.func4, Tryz.ntmps4
  go_wp2_with fail
  refine N1.out.mono ?_
  rintro e w1 ⟨dp, O1, rfl, hk, _, _⟩
  have K : Hid (DK w0 w1 dp (mq [] 0) O1) := Lib.hid hk
  clear hk N1
  -- Put of two numbers
  have HB := Lib.hid ((Below.refl w1.heap.size w1).alloc (Nat.le_refl _) (.cells #[.int .i64 0, .int .i64 258] 2))
  have PT := Lib.hid (mput_any [0, 258] (some ⟨w1.heap.size, 0, none⟩) 2 2 (w1.alloc (.cells #[.int .i64 0, .int .i64 258] 2)) (lit_row w1 [0, 258] (by decide)) rfl)
  go_wp2_with fail
  refine PT.out.mono ?_
  rintro e w2 ⟨v2, rfl, ho2, hb2⟩
  obtain ⟨ab, cb, rfl, hsb, hab⟩ := ho2.sl_base (mPut_byte _)
  rw [mh10] at hsb
  have K2 := Lib.hid (K.out.on (HB.out.trans (hb2.mono (by simp))))
  have X : Hid (Sl w2 w2.heap.size ab 13 cb (mPut [0, 258]) ∧ Far O1 ab 13) := Lib.hid ⟨hsb, fun _ k o he hO => by have := K.out.lt k hO; have := hab k o he; simp at this; omega⟩
  clear ho2 hb2 hsb hab PT HB K
  rw [mh10]
  -- Get of these
  have GT := mget_any ab 13 cb (mPut [0, 258]) w2 X.out.1 (by decide)
  rw [mh8] at GT
  have GT := Lib.hid GT
  go_wp2_with fail
  refine GT.out.mono ?_
  rintro e w3 ⟨v3, rfl, ho3, hb3⟩
  obtain ⟨al, cl, rfl, hrl, hal⟩ := ho3.out
  have K := Lib.hid (K2.out.on hb3)
  have L : Hid (Row w3 w3.heap.size al 2 cl 1 (intsC [0, 258]) ∧ Far O1 al 2) := Lib.hid ⟨hrl, fun _ k o he hO => by have := K2.out.lt k hO; have := hal k o he; omega⟩
  have X' : Hid (Sl w3 w3.heap.size ab 13 cb (mPut [0, 258]) ∧ Far O1 ab 13) := Lib.hid ⟨X.out.1.on hb3, X.out.2⟩
  clear ho3 hb3 hrl hal GT K2 X
  -- Get of a half
  have kcut : ∀ x, (Instr.slice 32 (.slice ab 13 cb) none (some (.int .i64 6)) none).run Tryz.prog x = .ok (.slice ab 6 cb) x := run_cut_to (P := Tryz.prog) 32 5 Tryz.underlying32 info_u8 ab 13 cb 6 (by have := X'.out.1.le; omega)
  have GT := mget_any ab 6 cb ((mPut [0, 258]).take 6) w3 (X'.out.1.take (by decide)) (by decide)
  rw [mh9] at GT
  have GT := Lib.hid GT
  go_wp2_with fail
  refine GT.out.mono ?_
  rintro e w4 ⟨v4, rfl, ho4, hb4⟩
  have K2 := Lib.hid (K.out.on hb4)
  have L' := Lib.hid (And.intro (L.out.1.on hb4) L.out.2)
  have X : Hid (Sl w4 w4.heap.size ab 13 cb (mPut [0, 258]) ∧ Far O1 ab 13) := Lib.hid ⟨X'.out.1.on hb4, X'.out.2⟩
  clear ho4 hb4 GT K L X' kcut
  -- Load of nothing
  have LD := mload_any K2.out
  rw [M1.out] at LD
  have LD := Lib.hid LD
  go_wp2_with fail
  refine LD.out.mono ?_
  rintro e w5 ⟨v5, rfl, ho5, hb5⟩
  have K := Lib.hid (K2.out.on hb5)
  have L := Lib.hid (And.intro (L'.out.1.on hb5) L'.out.2)
  have X' : Hid (Sl w5 w5.heap.size ab 13 cb (mPut [0, 258]) ∧ Far O1 ab 13) := Lib.hid ⟨X.out.1.on hb5, X.out.2⟩
  clear ho5 hb5 LD K2 L' X
  -- Swap of numbers that fall
  have hb := (Below.refl w5.heap.size w5).alloc (Nat.le_refl _) (.cells #[.int .i64 5, .int .i64 3] 2)
  have C := mswap_any (K.out.on hb) [5, 3] (some ⟨w5.heap.size, 0, none⟩) 2 2 (lit_row w5 [5, 3] (by decide)) rfl (lit_far K.out)
  rw [M2.out] at C
  have HC := Lib.hid C
  have L' := Lib.hid (And.intro (L.out.1.on hb) L.out.2)
  have X := Lib.hid (And.intro (X'.out.1.on hb) X'.out.2)
  clear C K L X' hb
  go_wp2_with fail
  refine HC.out.mono ?_
  rintro e w6 ⟨rfl, hmv⟩
  obtain ⟨O2, k2, b2, f2⟩ := hmv.far
  have K := Lib.hid k2
  have L := Lib.hid (Row.mv L'.out b2 f2)
  have X' := Lib.hid (Sl.mv X.out b2 f2)
  clear hmv k2 b2 f2 HC L' X
  -- Swap
  have hb := (Below.refl w6.heap.size w6).alloc (Nat.le_refl _) (.cells #[.int .i64 3, .int .i64 5] 2)
  have C := mswap_any (K.out.on hb) [3, 5] (some ⟨w6.heap.size, 0, none⟩) 2 2 (lit_row w6 [3, 5] (by decide)) rfl (lit_far K.out)
  rw [M3.out] at C
  have HC := Lib.hid C
  have L' := Lib.hid (And.intro (L.out.1.on hb) L.out.2)
  have X := Lib.hid (And.intro (X'.out.1.on hb) X'.out.2)
  clear C K L X' hb
  go_wp2_with fail
  refine HC.out.mono ?_
  rintro e w7 ⟨rfl, hmv⟩
  obtain ⟨O3, k3, b3, f3⟩ := hmv.far
  have K := Lib.hid k3
  have L := Lib.hid (Row.mv L'.out b3 f3)
  have X' := Lib.hid (Sl.mv X.out b3 f3)
  clear hmv k3 b3 f3 HC L' X
  -- Fail
  have C := K.out.fail 1 (by decide)
  rw [M4.out] at C
  have HC := Lib.hid C
  clear C K
  go_wp2_with fail
  refine HC.out.mono ?_
  rintro e w8 ⟨rfl, hmv⟩
  obtain ⟨O4, k4, b4, f4⟩ := hmv.far
  have K := Lib.hid k4
  have L' := Lib.hid (Row.mv L.out b4 f4)
  have X := Lib.hid (Sl.mv X'.out b4 f4)
  clear hmv k4 b4 f4 HC L X'
  -- Swap, whose Sync fails
  have hb := (Below.refl w8.heap.size w8).alloc (Nat.le_refl _) (.cells #[.int .i64 9] 2)
  have C := mswap_any (K.out.on hb) [9] (some ⟨w8.heap.size, 0, none⟩) 1 1 (lit_row w8 [9] (by decide)) rfl (lit_far K.out)
  rw [M5.out] at C
  have HC := Lib.hid C
  have L := Lib.hid (And.intro (L'.out.1.on hb) L'.out.2)
  have X' := Lib.hid (And.intro (X.out.1.on hb) X.out.2)
  clear C K L' X hb
  go_wp2_with fail
  refine HC.out.mono ?_
  rintro e w9 ⟨rfl, hmv⟩
  obtain ⟨O5, k5, b5, f5⟩ := hmv.far
  have K := Lib.hid k5
  have L' := Lib.hid (Row.mv L.out b5 f5)
  have X := Lib.hid (Sl.mv X'.out b5 f5)
  clear hmv k5 b5 f5 HC L X'
  -- Load
  have LD := mload_any K.out
  rw [M6.out] at LD
  have LD := Lib.hid LD
  go_wp2_with fail
  refine LD.out.mono ?_
  rintro e w10 ⟨v10, rfl, ho10, hb10⟩
  obtain ⟨am, cm, rfl, hrm, ham⟩ := ho10.out
  have K2 := Lib.hid (K.out.on hb10)
  have L := Lib.hid (L'.out.1.on hb10)
  have X' := Lib.hid (X.out.1.on hb10)
  have Mm := Lib.hid hrm
  clear ho10 hb10 LD K L' X hrm ham
  -- what is told
  have kcut : ∀ x, (Instr.slice 32 (.slice ab 13 cb) none (some (.int .i64 9)) none).run Tryz.prog x = .ok (.slice ab 9 cb) x := run_cut_to (P := Tryz.prog) 32 5 Tryz.underlying32 info_u8 ab 13 cb 9 (by have := X'.out.le; omega)
  have hx9 := X'.out.take (k := 9) (by decide)
  rw [mh11] at hx9
  have kx : (convert 32 9 (.slice ab 9 cb)).run Tryz.prog w10 = .ok (.string ⟨#[2, 0, 0, 0, 0, 0, 0, 1, 2]⟩) w10 := run_str hx9 32 5 9 Tryz.underlying32 Tryz.underlying5 Tryz.underlying9
  have hb := (Below.refl w10.heap.size w10).alloc (Nat.le_refl _) (.cells #[.int .i64 0, .int .i64 258] 2)
  have SM := Lib.hid (rsame_any [0, 258] [0, 258] al (some ⟨w10.heap.size, 0, none⟩) 2 2 cl 2 _ (L.out.on hb) (lit_row w10 [0, 258] (by decide)) rfl rfl)
  have K := Lib.hid (K2.out.on hb)
  have Mm2 := Lib.hid (Mm.out.on hb)
  clear hx9 X' L K2 Mm hb
  go_wp2_with fail
  refine SM.out.mono ?_
  rintro e w11 ⟨rfl, hb11⟩
  have K2 := Lib.hid (K.out.on hb11)
  have Mm := Lib.hid (Mm2.out.on hb11)
  clear hb11 SM K Mm2 kx
  have hb := (Below.refl w11.heap.size w11).alloc (Nat.le_refl _) (.cells #[.int .i64 3, .int .i64 5] 2)
  have SM := Lib.hid (rsame_any [3, 5] [3, 5] am (some ⟨w11.heap.size, 0, none⟩) 2 2 cm 2 _ (Mm.out.on hb) (lit_row w11 [3, 5] (by decide)) rfl rfl)
  have K := Lib.hid (K2.out.on hb)
  clear Mm hb K2
  go_wp2_with fail
  refine SM.out.mono ?_
  rintro e w12 ⟨rfl, hb12⟩
  have K2 := Lib.hid (K.out.on hb12)
  clear hb12 SM K
  have LS := K2.out.list
  rw [M7.out] at LS
  have LS := Lib.hid LS
  go_wp2_with fail
  refine LS.out.mono ?_
  rintro e w13 hN
  obtain ⟨g13, c13, rfl, hr13, _, hb13⟩ := NewNames.out hN
  have K := Lib.hid (K2.out.on hb13)
  have hb := (Below.refl w13.heap.size w13).alloc (Nat.le_refl _) (.cells #[.string ⟨#[109, 97, 110, 105, 102, 101, 115, 116]⟩] 9)
  have SS := Lib.hid (sameStr_any [mfL] (some ⟨g13, 0, none⟩) (some ⟨w13.heap.size, 0, none⟩) c13 1 _ (hr13.on hb) (Row.new (heap_alloc_new w13 _) (fun j hj => by (match j, hj with | 0, _ => rfl)) (by decide)))
  have K' := Lib.hid (K.out.on hb)
  clear hN hr13 hb13 LS K2 K hb
  go_wp2_with fail
  refine SS.out.mono ?_
  rintro e w14 ⟨rfl, hb14⟩
  have K := Lib.hid (K'.out.on hb14)
  have PT := mput_any [] none 0 0 w14 ⟨Nat.le_refl _, by simp [maxLen], fun hn => absurd hn (by omega)⟩ rfl
  rw [mh12] at PT
  have PT := Lib.hid PT
  clear hb14 SS K'
  go_wp2_with fail
  refine PT.out.mono ?_
  rintro e w15 ⟨v15, rfl, ho15, hb15⟩
  obtain ⟨a15, c15, rfl, _, _⟩ := ho15.sl_base (by simp)
  have K' := Lib.hid (K.out.on hb15)
  clear ho15 hb15 PT K
  go_wp2
  go_ret
  exact ⟨rfl, K'.out.below⟩
end Go.Proofs.YtohiheohndmccaaGreat

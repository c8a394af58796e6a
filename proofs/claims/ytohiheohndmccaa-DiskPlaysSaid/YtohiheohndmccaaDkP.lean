/- The statements' live question. -/
import Derived.Test.YtohiheohndmccaaDkO
import Derived.Lib.SlBytesConst
namespace Go.Proofs.Ytohiheohndmccaa
open Go.RowKit Go.Sort
open Go.Maps
attribute [local go_sem] Oper.semAt_some

def hello : List Nat := [104, 101, 108, 108, 111]
def hq (es : List (Lit × DataW Fl)) (fuse fails : Int) : St := ⟨.map es, 10, fuse, fails⟩
def fa (bs : List Nat) (l : Nat) : Lit × DataW Fl := (.string [97], .held ⟨bs, l⟩)
def fc (bs : List Nat) (l : Nat) : Lit × DataW Fl := (.string [99], .held ⟨bs, l⟩)
theorem hw1 : (hq [] (-1) 0).write (⟨#[97]⟩ : ByteArray).data.toList hello = (0, hq [fa hello 0] (-1) 0) := by kernel_rfl
theorem hw2 : (hq [fa hello 0] (-1) 0).sync (⟨#[97]⟩ : ByteArray).data.toList = (0, hq [fa hello 5] (-1) 0) := by kernel_rfl
theorem hw3 : (hq [fa hello 5] (-1) 0).write (⟨#[97]⟩ : ByteArray).data.toList [121, 111, 117] = (0, hq [fa (hello ++ [121, 111, 117]) 5] (-1) 0) := by kernel_rfl
theorem hw4 : (hq [fa (hello ++ [121, 111, 117]) 5] (-1) 0).write (⟨#[98, 46, 49, 45]⟩ : ByteArray).data.toList [97, 98, 99] = (5, hq [fa (hello ++ [121, 111, 117]) 5] (-1) 0) := by kernel_rfl
theorem hw5 : (hq [fa (hello ++ [121, 111, 117]) 5] (-1) 0).write (⟨#[65]⟩ : ByteArray).data.toList [] = (1, hq [fa (hello ++ [121, 111, 117]) 5] (-1) 0) := by kernel_rfl
theorem hw6 : (hq [fa (hello ++ [121, 111, 117]) 5] (-1) 0).sync (⟨#[99]⟩ : ByteArray).data.toList = (3, hq [fa (hello ++ [121, 111, 117]) 5] (-1) 0) := by kernel_rfl
theorem hw7 : (hq [fa (hello ++ [121, 111, 117]) 5] (-1) 0).fail_ 1 = hq [fa (hello ++ [121, 111, 117]) 5] (-1) 1 := by kernel_rfl
theorem hw8 : (hq [fa (hello ++ [121, 111, 117]) 5] (-1) 1).sync (⟨#[97]⟩ : ByteArray).data.toList = (41, hq [fa (hello ++ [121, 111, 117]) 5] (-1) 0) := by kernel_rfl
theorem hw9 : (hq [fa (hello ++ [121, 111, 117]) 5] (-1) 0).fuse_ 1 = hq [fa (hello ++ [121, 111, 117]) 5] 1 0 := by kernel_rfl
theorem hw10 : (hq [fa (hello ++ [121, 111, 117]) 5] 1 0).rename (⟨#[97]⟩ : ByteArray).data.toList (⟨#[99]⟩ : ByteArray).data.toList = (0, hq [fc (hello ++ [121, 111, 117]) 5] 0 0) := by kernel_rfl
theorem hw11 : (hq [fc (hello ++ [121, 111, 117]) 5] 0 0).delete (⟨#[99]⟩ : ByteArray).data.toList = (42, hq [fc (hello ++ [121, 111, 117]) 5] 0 0) := by kernel_rfl
theorem hw12 : (hq [fc (hello ++ [121, 111, 117]) 5] 0 0).crash [2] = hq [fc (hello ++ [121, 111]) 7] (-1) 0 := by kernel_rfl
theorem hw13 : fat (hq [fc (hello ++ [121, 111]) 7] (-1) 0).D (⟨#[99]⟩ : ByteArray).data.toList = some ⟨hello ++ [121, 111], 7⟩ := by kernel_rfl
theorem hw14 : (hq [fc (hello ++ [121, 111]) 7] (-1) 0).delete (⟨#[99]⟩ : ByteArray).data.toList = (0, hq [] (-1) 0) := by kernel_rfl
theorem hw15 : fat (hq [] (-1) 0).D (⟨#[99]⟩ : ByteArray).data.toList = none := by kernel_rfl

set_option maxRecDepth 100000 in
set_option maxHeartbeats 6400000 in
theorem head_any (w0 : World) : Calls Try.prog 4 #[] w0 fun e w' => e = .returned (.bool true) ∧ Below w0.heap.size w0 w' := by
  have N1 := Lib.hid (DK.new 10 (by decide) w0)
  have N2 := Lib.hid (fun w => new_no (-1) (by decide) w)
  have kc := fun (w : World) (C : Array Value) (n c : Nat) => Lib.run_convert_bytes_const (P := Try.prog) w 31 5 C n c Try.underlying31 Try.underlying5
  go_enter Try.func4, Try.ntmps4
  go_wp2_with fail
  refine N1.out.mono ?_
  rintro e w1 ⟨dp, O1, rfl, hk, _, _⟩
  have K : Hid (DK w0 w1 dp (hq [] (-1) 0) O1) := Lib.hid hk
  clear hk N1
  go_wp2_with fail
  refine (N2.out _).mono ?_
  rintro e w1' ⟨rfl, rfl⟩
  have C := (K.out.on ((Below.refl w1.heap.size w1).alloc (Nat.le_refl _) (.cells #[.int .u8 104, .int .u8 101, .int .u8 108, .int .u8 108, .int .u8 111] 5 (5, 6)))).write ⟨#[97]⟩ (by decide) (some ⟨w1.heap.size, 0, none⟩) 5 5 hello (Sl.new (heap_alloc_new w1 _) (by rfl) (by decide) 5 rfl (by decide)) (by decide) (lit_far K.out)
  rw [hw1] at C
  have HC := Lib.hid C
  clear C K
  go_wp2_with fail
  refine HC.out.mono ?_
  rintro e w2 ⟨rfl, hmv⟩
  obtain ⟨O2, k2, b2, f2⟩ := hmv.far
  have K := Lib.hid k2
  clear hmv k2 b2 f2 HC
  have C := K.out.sync ⟨#[97]⟩ (by decide)
  rw [hw2] at C
  have HC := Lib.hid C
  clear C K
  go_wp2_with fail
  refine HC.out.mono ?_
  rintro e w3 ⟨rfl, hmv⟩
  obtain ⟨O3, k3, b3, f3⟩ := hmv.far
  have K := Lib.hid k3
  clear hmv k3 b3 f3 HC
  have C := (K.out.on ((Below.refl w3.heap.size w3).alloc (Nat.le_refl _) (.cells #[.int .u8 121, .int .u8 111, .int .u8 117] 5 (3, 4)))).write ⟨#[97]⟩ (by decide) (some ⟨w3.heap.size, 0, none⟩) 3 3 [121, 111, 117] (Sl.new (heap_alloc_new w3 _) (by rfl) (by decide) 3 rfl (by decide)) (by decide) (lit_far K.out)
  rw [hw3] at C
  have HC := Lib.hid C
  clear C K
  go_wp2_with fail
  refine HC.out.mono ?_
  rintro e w4 ⟨rfl, hmv⟩
  obtain ⟨O4, k4, b4, f4⟩ := hmv.far
  have K := Lib.hid k4
  clear hmv k4 b4 f4 HC
  have C := (K.out.on ((Below.refl w4.heap.size w4).alloc (Nat.le_refl _) (.cells #[.int .u8 97, .int .u8 98, .int .u8 99] 5 (3, 4)))).write ⟨#[98, 46, 49, 45]⟩ (by decide) (some ⟨w4.heap.size, 0, none⟩) 3 3 [97, 98, 99] (Sl.new (heap_alloc_new w4 _) (by rfl) (by decide) 3 rfl (by decide)) (by decide) (lit_far K.out)
  rw [hw4] at C
  have HC := Lib.hid C
  clear C K
  go_wp2_with fail
  refine HC.out.mono ?_
  rintro e w5 ⟨rfl, hmv⟩
  obtain ⟨O5, k5, b5, f5⟩ := hmv.far
  have K := Lib.hid k5
  clear hmv k5 b5 f5 HC
  have C := K.out.write ⟨#[65]⟩ (by decide) none 0 0 [] Sl.nil_ (by decide) (fun h => absurd h (by decide))
  rw [hw5] at C
  have HC := Lib.hid C
  clear C K
  go_wp2_with fail
  refine HC.out.mono ?_
  rintro e w6 ⟨rfl, hmv⟩
  obtain ⟨O6, k6, b6, f6⟩ := hmv.far
  have K := Lib.hid k6
  clear hmv k6 b6 f6 HC
  have C := K.out.sync ⟨#[99]⟩ (by decide)
  rw [hw6] at C
  have HC := Lib.hid C
  clear C K
  go_wp2_with fail
  refine HC.out.mono ?_
  rintro e w7 ⟨rfl, hmv⟩
  obtain ⟨O7, k7, b7, f7⟩ := hmv.far
  have K := Lib.hid k7
  clear hmv k7 b7 f7 HC
  have C := K.out.fail 1 (by decide)
  rw [hw7] at C
  have HC := Lib.hid C
  clear C K
  go_wp2_with fail
  refine HC.out.mono ?_
  rintro e w8 ⟨rfl, hmv⟩
  obtain ⟨O8, k8, b8, f8⟩ := hmv.far
  have K := Lib.hid k8
  clear hmv k8 b8 f8 HC
  have C := K.out.sync ⟨#[97]⟩ (by decide)
  rw [hw8] at C
  have HC := Lib.hid C
  clear C K
  go_wp2_with fail
  refine HC.out.mono ?_
  rintro e w9 ⟨rfl, hmv⟩
  obtain ⟨O9, k9, b9, f9⟩ := hmv.far
  have K := Lib.hid k9
  clear hmv k9 b9 f9 HC
  have C := K.out.fuse 1 (by decide)
  rw [hw9] at C
  have HC := Lib.hid C
  clear C K
  go_wp2_with fail
  refine HC.out.mono ?_
  rintro e w10 ⟨rfl, hmv⟩
  obtain ⟨O10, k10, b10, f10⟩ := hmv.far
  have K := Lib.hid k10
  clear hmv k10 b10 f10 HC
  have C := K.out.rename ⟨#[97]⟩ ⟨#[99]⟩ (by decide) (by decide)
  rw [hw10] at C
  have HC := Lib.hid C
  clear C K
  go_wp2_with fail
  refine HC.out.mono ?_
  rintro e w11 ⟨rfl, hmv⟩
  obtain ⟨O11, k11, b11, f11⟩ := hmv.far
  have K := Lib.hid k11
  clear hmv k11 b11 f11 HC
  have C := K.out.delete ⟨#[99]⟩ (by decide)
  rw [hw11] at C
  have HC := Lib.hid C
  clear C K
  go_wp2_with fail
  refine HC.out.mono ?_
  rintro e w12 ⟨rfl, hmv⟩
  obtain ⟨O12, k12, b12, f12⟩ := hmv.far
  have K := Lib.hid k12
  clear hmv k12 b12 f12 HC
  have C := (K.out.on ((Below.refl w12.heap.size w12).alloc (Nat.le_refl _) (.cells #[.int .i64 2] 3))).crash [2] (some ⟨w12.heap.size, 0, none⟩) 1 1 (Row.new (heap_alloc_new w12 _) (fun j hj => by (match j, hj with | 0, _ => rfl)) (by decide)) rfl (lit_far K.out)
  rw [hw12] at C
  have HC := Lib.hid C
  clear C K
  go_wp2_with fail
  refine HC.out.mono ?_
  rintro e w13 ⟨rfl, hmv⟩
  obtain ⟨O13, k13, b13, f13⟩ := hmv.far
  have K := Lib.hid k13
  clear hmv k13 b13 f13 HC
  have C := K.out.read ⟨#[99]⟩ (by decide)
  have hby := fat_byte K.out.good (⟨#[99]⟩ : ByteArray).data.toList
  rw [hw13] at C hby
  have HC := Lib.hid C
  clear C
  go_wp2_with fail
  refine HC.out.mono ?_
  rintro e w14 hN
  change NewBytes w13 [104, 101, 108, 108, 111, 121, 111] true e w14 at hN
  obtain ⟨xa, xc, rfl, hxs, hxf, hb14⟩ := NewBytes.out K.out hN hby
  have X := Lib.hid (And.intro hxs hxf)
  have K' := Lib.hid (K.out.on hb14)
  clear hN hxs hxf HC hby hb14 K
  have C := K'.out.delete ⟨#[99]⟩ (by decide)
  rw [hw14] at C
  have HC := Lib.hid C
  clear C
  go_wp2_with fail
  refine HC.out.mono ?_
  rintro e w15 ⟨rfl, hmv⟩
  obtain ⟨O15, k15, b15, f15⟩ := hmv.far
  have K := Lib.hid k15
  have hX := X.out.1.but b15 (fun hp k o he => (X.out.2 hp k o he).1)
  have X2 := Lib.hid hX
  clear hmv k15 b15 f15 HC K' X hX
  have C := K.out.read ⟨#[99]⟩ (by decide)
  have hby := fat_byte K.out.good (⟨#[99]⟩ : ByteArray).data.toList
  rw [hw15] at C hby
  have HC := Lib.hid C
  clear C
  go_wp2_with fail
  refine HC.out.mono ?_
  rintro e w16 hN
  change NewBytes w15 [] false e w16 at hN
  obtain ⟨ya, yc, rfl, _, _, hb16⟩ := NewBytes.out K.out hN hby
  have hx16 := (X2.out.below hb16 (Nat.le_refl _)).more hb16.size
  have K' := Lib.hid (K.out.on hb16)
  have kx : ∀ w', Below w16.heap.size w16 w' → (convert 31 9 (.slice xa 7 xc)).run Try.prog w' = .ok (.string ⟨#[104, 101, 108, 108, 111, 121, 111]⟩) w' := fun w' hb => run_str (hx16.below hb (Nat.le_refl _)) 31 5 9 Try.underlying31 Try.underlying5 Try.underlying9
  have kx0 := kx w16 (Below.refl _ _)
  have LC := Lib.hid K'.out.list
  clear hN hb16 HC hby K X2 kx hx16
  go_wp2_with fail
  refine LC.out.mono ?_
  rintro e w17 ⟨g, c17, rfl, how, hb17⟩
  have K := Lib.hid (K'.out.on hb17)
  have UC := Lib.hid K.out.used
  clear how hb17 LC K' kx0
  go_wp2_with fail
  refine UC.out.mono ?_
  rintro e w18 ⟨rfl, hb18⟩
  have K' := Lib.hid (K.out.on hb18)
  clear hb18 UC K
  go_wp2
  go_ret
  exact ⟨rfl, K'.out.below⟩
end Go.Proofs.Ytohiheohndmccaa

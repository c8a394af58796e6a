/- The head of the statements on wire: it is true. -/
import Derived.Test.YtkmdnmjbjbkpdaaWrJ
import Derived.Lib.SlBytesConst
namespace Go.Proofs.Ytkmdnmjbjbkpdaa
open Go.RowKit
open Wir

/-- What the head keeps while it reads. -/
structure HdR (w w' : World) (g : Nat) (s : RS) (O : Nat → Prop) (a : Option Addr) (c : Nat) : Prop where
  rdr : Rdr 56 w' g s O
  ge : ∀ k, O k → w.heap.size ≤ k
  below : Below w.heap.size w w'
  bytes : Away w' O a 16 c B16
theorem HdR.step {w w1 w2 : World} {g : Nat} {s s' : RS} {O : Nat → Prop} {a : Option Addr} {c : Nat} (h : HdR w w1 g s O a c) (hr : Rdr 56 w2 g s' O) (hb : But O w1 w2) : HdR w w2 g s' O a c :=
  ⟨hr, h.ge, But.under h.below hb h.ge, h.bytes.but hb⟩
theorem HdR.on {w w1 w2 : World} {g : Nat} {s : RS} {O : Nat → Prop} {a : Option Addr} {c : Nat} (h : HdR w w1 g s O a c) (hb : Below w1.heap.size w1 w2) : HdR w w2 g s O a c :=
  ⟨h.rdr.below hb, h.ge, h.below.trans (hb.mono h.below.size), h.bytes.below hb⟩
theorem str6 : strOf (B16.take 6) = ⟨#[1, 216, 4, 4, 97, 98]⟩ := by kernel_rfl
theorem strab : strOf [97, 98] = ⟨#[97, 98]⟩ := by kernel_rfl
set_option maxRecDepth 100000 in
set_option maxHeartbeats 6400000 in
theorem head_any (w : World) :
    Calls Try.prog 9 #[] w fun e w' => e = .returned (.bool true) ∧ Below w.heap.size w w' := by
  have kc := fun (w : World) (C : Array Value) (n c : Nat) => Lib.run_convert_bytes_const (P := Try.prog) w 22 5 C n c Try.underlying22 Try.underlying5
  have W0 := Lib.hid (WK.new 41 w)
  go_enter Try.func9, Try.ntmps9
  go_wp2_with fail
  refine (W0.out.num (-1) (by decide) (by decide) (by decide)).mono ?_
  rintro e w1 ⟨rfl, h1⟩
  rw [dg_m1] at h1
  have W1 := Lib.hid h1
  clear h1 W0
  go_wp2_with fail
  refine (W1.out.num 300 (by decide) (by decide) (by decide)).mono ?_
  rintro e w2 ⟨rfl, h2⟩
  rw [dg_300] at h2
  have W2 := Lib.hid h2
  clear h2 W1
  go_wp2_with fail
  refine (W2.out.textNew ((Below.refl _ _).alloc (Nat.le_refl _) _) (some ⟨w2.heap.size, 0, none⟩) 2 2 [97, 98] (Sl.new (heap_alloc_new _ _) (by rfl) (by decide) 2 rfl (by decide)) (fun _ b o e => by injection e with e; injection e with e; omega) (by decide) (by decide)).mono ?_
  rintro e w3 ⟨rfl, h3⟩
  rw [dg_2] at h3
  have W3 := Lib.hid h3
  clear h3 W2 kc
  go_wp2_with fail
  refine (W3.out.num (-9223372036854775808) (by decide) (by decide) (by decide)).mono ?_
  rintro e w4 ⟨rfl, h4⟩
  rw [dg_min] at h4
  change WK 41 w w4 _ B16 at h4
  have W4 := Lib.hid h4
  clear h4 W3
  go_wp2_with fail
  refine (W4.out.bytes (by decide)).mono ?_
  rintro e w5 ⟨a, c, rfl, s5, h5, b5, n5⟩
  obtain ⟨_, _, _, hb5⟩ := h5
  have NR := Lib.hid (newReader_any a B16.length c B16 w5 s5 (by decide))
  have H5 := Lib.hid (And.intro s5 hb5)
  clear s5 b5 n5 W4 hb5
  rw [show B16.length = 16 from rfl] at *
  go_wp2_with fail
  refine NR.out.mono ?_
  rintro e w6 ⟨g, O, rfl, r6, b6, n6⟩
  have K6 : HdR w w6 g ⟨B16, 0, 0⟩ O a c := ⟨r6, fun k hk => Nat.le_trans H5.out.2.size (n6 k hk), H5.out.2.trans (b6.mono H5.out.2.size), Away.old H5.out.1 b6 n6⟩
  have K6 := Lib.hid K6
  clear r6 b6 n6 NR H5
  have C1 := Lib.hid (num_any K6.out.rdr)
  rw [hd_r1] at C1
  go_wp2_with fail
  refine C1.out.mono ?_
  rintro e w7 ⟨rfl, r7, b7⟩
  have K7 := Lib.hid (K6.out.step r7 b7)
  clear r7 b7 K6 C1
  have C1 := Lib.hid (int_any K7.out.rdr 300 300)
  rw [hd_r2] at C1
  go_wp2_with fail
  refine C1.out.mono ?_
  rintro e w8 ⟨rfl, r8, b8⟩
  have K8 := Lib.hid (K7.out.step r8 b8)
  clear r8 b8 K7 C1
  have C1 := Lib.hid (text_any K8.out.rdr 2)
  rw [hd_r3] at C1
  go_wp2_with fail
  refine C1.out.mono ?_
  rintro e w9 ⟨xa, xc, rfl, sx, nx, r9, b9⟩
  have K9 := Lib.hid (K8.out.step r9 b9)
  have X9 := Lib.hid (Away.new (O := O) sx nx K8.out.rdr.lt)
  clear r9 b9 K8 C1 sx nx
  rw [show ([97, 98] : List Nat).length = 2 from rfl] at *
  have C1 := Lib.hid (num_any K9.out.rdr)
  rw [hd_r4] at C1
  go_wp2_with fail
  refine C1.out.mono ?_
  rintro e wA ⟨rfl, rA, bA⟩
  have KA := Lib.hid (K9.out.step rA bA)
  have XA := Lib.hid (X9.out.but bA)
  clear rA bA K9 X9 C1
  have C1 := Lib.hid (end_any KA.out.rdr)
  rw [hd_r5] at C1
  go_wp2_with fail
  refine C1.out.mono ?_
  rintro e wB ⟨rfl, bB⟩
  have KB := Lib.hid (KA.out.on bB)
  have XB := Lib.hid (XA.out.below bB)
  clear bB KA XA C1
  have C1 := Lib.hid (num_any KB.out.rdr)
  rw [hd_r6] at C1
  go_wp2_with fail
  refine C1.out.mono ?_
  rintro e wC ⟨rfl, rC, bC⟩
  have KC := Lib.hid (KB.out.step rC bC)
  have XC := Lib.hid (XB.out.but bC)
  clear rC bC KB XB C1
  go_wp2_with fail
  refine (newReader_any (some ⟨wC.heap.size, 0, none⟩) 2 2 [128, 0] _ (Sl.new (heap_alloc_new _ _) (by rfl) (by decide) 2 rfl (by decide)) (by decide)).mono ?_
  rintro e wD ⟨g2, P, rfl, rD, bD, nD⟩
  have bD' : Below wC.heap.size wC wD := ((Below.refl _ _).alloc (Nat.le_refl _) _).trans (bD.mono (by simp))
  have KD := Lib.hid (KC.out.on bD')
  have XD := Lib.hid (XC.out.below bD')
  have RD := Lib.hid (And.intro rD (show ∀ k, P k → wC.heap.size ≤ k from fun k hk => by have := nD k hk; simp at this; omega))
  have hPO : Hid (∀ k, O k → ¬ P k) := fun k ho hp => by have := KC.out.rdr.lt k ho; have := RD.out.2 k hp; omega
  have HZ := Lib.hid bD'.size
  have XCC : Hid (0 < 2 → ∀ {b o : Nat}, xa = some ⟨b, o, none⟩ → b < wC.heap.size) := fun hp b o e => XC.out.1.in_ hp e
  clear rD bD nD bD' XC
  have C1 := Lib.hid (num_any RD.out.1)
  rw [hd_s1] at C1
  go_wp2_with fail
  refine C1.out.mono ?_
  rintro e wE ⟨rfl, rE, bE⟩
  have KE := Lib.hid (show HdR w wE g ⟨B16, 16, 13⟩ O a c from ⟨KD.out.rdr.but bE hPO.out, KD.out.ge, KD.out.below.trans (bE.below KD.out.below.size (fun k hk => Nat.le_trans KC.out.below.size (RD.out.2 k hk))),
    ⟨KD.out.bytes.1.same_ bE.size (fun hp b o e => bE.block b (KD.out.bytes.1.in_ hp e) (fun hp' => by have := RD.out.2 b hp'; have := KC.out.bytes.1.in_ hp e; omega)), KD.out.bytes.2⟩⟩)
  have XE := Lib.hid (show Away wE O xa 2 xc [97, 98] from ⟨XD.out.1.same_ bE.size (fun hp b o e => bE.block b (XD.out.1.in_ hp e) (fun hp' => by have := RD.out.2 b hp'; have := XCC.out hp e; omega)), XD.out.2⟩)
  have RE := Lib.hid rE
  clear rE bE KD XD RD C1 KC
  have q1 : ∀ w, (Instr.slice 22 (.slice a 16 c) none (some (.int .i64 6)) none).run Try.prog w = .ok (.slice a 6 c) w := run_cut_to (P := Try.prog) 22 5 Try.underlying22 info_u8 a 16 c 6 (by have := KE.out.bytes.1.le; omega)
  have q2 := run_str (P := Try.prog) (KE.out.bytes.1.take (k := 6) (by decide)) 22 5 9 Try.underlying22 Try.underlying5 Try.underlying9
  have q3 := run_str (P := Try.prog) XE.out.1 22 5 9 Try.underlying22 Try.underlying5 Try.underlying9
  rw [str6] at q2
  rw [strab] at q3
  have C1 := Lib.hid (end_any KE.out.rdr)
  rw [hd_r7] at C1
  go_wp2_with fail
  refine C1.out.mono ?_
  rintro e wF ⟨rfl, bF⟩
  have C2 := Lib.hid (end_any (RE.out.below bF))
  rw [hd_s2] at C2
  have BF := Lib.hid (KE.out.below.trans (bF.mono KE.out.below.size))
  clear q1 q2 q3 bF KE XE RE C1
  go_wp2_with fail
  refine C2.out.mono ?_
  rintro e wG ⟨rfl, bG⟩
  have BG := Lib.hid (BF.out.trans (bG.mono BF.out.size))
  clear bG BF C2
  go_wp2
  go_ret
  exact ⟨rfl, BG.out⟩
end Go.Proofs.Ytkmdnmjbjbkpdaa

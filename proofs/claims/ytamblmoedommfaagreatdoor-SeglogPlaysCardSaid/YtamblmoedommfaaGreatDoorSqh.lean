/- The program's log: Open of a wrong size; deletes whatever th. Names of segments as the reference makes and reads them: pla. Contracts of the reference: More, Of, bit by bit. Contracts of the reference of frames: Right, Read, Number, P. The reference's segment: Name, First, Head. The reference's numbers: Read, Number (as in FrR, for a seat. The reference's Right, Put, Get of lists. The reference's Put of lists. The reference's Same. What is owned, read; rows and bytes of which no call makes u. The reference's Get of lists. The reference's manifest: Swap, Load. The reference's manifest: Swap. The document's log, in memory: where it lies, what its calls. -/
import Derived.Test.YtamblmoedommfaaGreatDoorSqa
import Derived.Test.YtamblmoedommfaaGreatDoorSqb
import Derived.Test.YtamblmoedommfaaGreatDoorSqd
import Derived.Test.YtamblmoedommfaaGreatDoorSqe
import Derived.Test.YtamblmoedommfaaGreatDoorSqf
import Derived.Test.YtamblmoedommfaaGreatDoorSqg
import Derived.Deep.AppendLies
namespace Go.Proofs.YtamblmoedommfaaGreatDoor
set_option maxRecDepth 100000
set_option maxHeartbeats 40000000
set_option linter.unusedVariables false
set_option linter.unusedSimpArgs false
set_option linter.unusedSectionVars false
section
open Go.RowKit Go.Sort Go.Maps Go.Shelf
open Crc Frm
open Sgn
attribute [local go_sem] Oper.semAt_some
section
variable {w0 w : World} {dp lp size : Nat} {t : St} {D : Nat → Prop}
theorem lgopen_arg (dp : Nat) (size : Int) (hs : size < 64 ∨ 65536 < size) (w : World) :
 Calls Tryz.prog 9 #[.pointer (some ⟨dp, 0, none⟩), .int .i64 size] w fun e w' => e = .returned (.tuple #[.pointer none, .int .i64 1]) ∧ w' = w := by
 by_cases h1 : size < 64
 · clear hs
   go_enter Tryz.func9, Tryz.ntmps9
   go_wp2
   go_ret2
   exact ⟨rfl, rfl⟩
 have h2 : 65536 < size := by omega
 have h3 : 64 ≤ size := by omega
 clear hs h1
 go_enter Tryz.func9, Tryz.ntmps9
 go_wp2
 go_ret2
 exact ⟨rfl, rfl⟩
theorem deleteEach_any (hd : DK w0 w dp t D) (c0 : w.cell? ⟨lp, 0, none⟩ = some (.pointer (some ⟨dp, 0, none⟩))) (hlp : ¬ D lp) (names : List (List UInt8)) (a : Option Addr) (n c : Nat) (hn : names.length = n) (hr : Row w w.heap.size a n c 1 (nmC names)) (hshort : ∀ s ∈ names, shortS s) (hfar : ∀ k o, a = some ⟨k, o, none⟩ → ¬ D k) :
 Calls Tryz.prog 79 #[.pointer (some ⟨lp, 0, none⟩), .slice a n c] w fun e w' => e = .returned (.int .i64 (delEach names 0 t).1) ∧ Mv w0 w dp D (delEach names 0 t).2 w' := by
 have hrl := hr.le
 have hrm := hr.max
 unfold maxLen at hrm
 have hll := block_lt_of_cell c0
 have H := Qh (Qa hd (Qa c0 (Qa hlp (Qa hr (Qa hshort (Qa hfar hn))))))
 clear hd c0 hlp hr hshort hfar hn
 go_enter Tryz.func79, Tryz.ntmps79
 go_wp2_with fail
 go_loopw [5, 7, 8, 11] (fun f _ _ i wr => ∃ (k : Nat) (x : Int) (t' : St), k ≤ n ∧ i = .int .i64 (k : Int) ∧ f = .int .i64 x ∧ Mv w0 w dp D t' wr ∧ delEach (names.drop k) x t' = delEach names 0 t) (fun _ _ _ i _ => n - (intOf i).toNat)
 case atStart => exact ⟨0, 0, t, Nat.zero_le _, rfl, rfl, Mv.still H.out.1 Qb, rfl⟩
 case round =>
  obtain ⟨k, x, t', hk, rfl, rfl, hm, hrun⟩ := hrel
  by_cases hlt : k < n
  · obtain ⟨D', hd', hb, hD⟩ := hm
    obtain ⟨b, o, rfl, hbl, hc⟩ := H.out.2.2.2.1.at_ (by omega)
    have hc0 := (hb.cell (b := lp) (o := 0) hll H.out.2.2.1).trans H.out.2.1
    have hck : wr.cell? ⟨b, o + k, none⟩ = some (.string ⟨(names.getD k []).toArray⟩) := (hb.cell (b := b) (o := o + k) hbl (H.out.2.2.2.2.2.1 b o rfl)).trans (hc k (by omega))
    have hln := H.out.2.2.2.2.2.2
    have hmem : names.getD k [] ∈ names := by
     rw [List.getD_eq_getElem?_getD, List.getElem?_eq_getElem (by omega)]
     exact List.getElem_mem _
    have hdrop : names.drop k = names.getD k [] :: names.drop (k + 1) := by
     rw [List.drop_eq_getElem_cons (by omega), List.getD_eq_getElem?_getD, List.getElem?_eq_getElem (by omega)]
     rfl
    have hsh := H.out.2.2.2.2.1 _ hmem
    rw [hdrop] at hrun
    obtain ⟨s, hs⟩ : ∃ s, s = names.getD k [] := ⟨_, rfl⟩
    rw [← hs] at hck hsh hrun
    have DE := hd'.delete ⟨s.toArray⟩ (by unfold shortS at hsh; show s.length ≤ _; omega)
    change Calls _ _ _ _ (fun e w' => e = .returned (.int .i64 (t'.delete s).1) ∧ Mv w0 wr dp D' (t'.delete s).2 w') at DE
    change delEach (names.drop (k + 1)) (if x = 0 then (t'.delete s).1 else x) (t'.delete s).2 = _ at hrun
    have HR := Qh hrun
    generalize t'.delete s = r at *
    have HM : Hid (∀ w2, Mv w0 wr dp D' r.2 w2 → Mv w0 w dp D r.2 w2) := fun w2 h2 => Mv.then hb hD h2
    have DE := Qh DE
    clear hrun hb hD hd' hc hmem hdrop hs hsh hln hbl
    by_cases hx : x = 0
    · subst hx
      go_wp2_with fail
      refine DE.out.mono ?_
      rintro e w2 ⟨rfl, h2⟩
      have H2 := Qh (HM.out w2 h2)
      clear h2 DE
      go_wp2_with fail
      go_roundw
      case rel => exact ⟨k + 1, r.1, r.2, by omega, by go_num, rfl, H2.out, HR.out⟩
      case measure => simp [intOf]; omega
    have hxn : (x == 0) = false := by simpa using hx
    have hrun := HR.out
    rw [if_neg hx] at hrun
    have HR2 := Qh hrun
    clear hrun HR hx
    go_wp2_with fail
    refine DE.out.mono ?_
    rintro e w2 ⟨rfl, h2⟩
    have H2 := Qh (HM.out w2 h2)
    clear h2 DE
    go_wp2_with fail
    go_roundw
    case rel => exact ⟨k + 1, x, r.2, by omega, by go_num, rfl, H2.out, HR2.out⟩
    case measure => simp [intOf]; omega
  have hkn : k = n := by omega
  subst hkn
  rw [List.drop_of_length_le (by have := H.out.2.2.2.2.2.2; omega)] at hrun
  have HE := Qh (Qa hm hrun)
  clear hm hrun
  go_wp2
  go_ret
  rw [← HE.out.2]
  exact ⟨rfl, HE.out.1⟩
end
end
section
namespace Sgn
open Go.Lib
def pad : Nat → Nat → List UInt8
 | 0, _ => []
 | k + 1, u => pad k (u / 10) ++ [UInt8.ofNat (48 + u % 10)]
theorem pad_len : ∀ k u, (pad k u).length = k
 | 0, _ => rfl
 | k + 1, u => by simp [pad, pad_len k]
theorem pad_cons : ∀ k u, pad (k + 1) u = UInt8.ofNat (48 + u / 10 ^ k % 10) :: pad k u
 | 0, u => by simp [pad]
 | k + 1, u => by
  have ih := pad_cons k (u / 10)
  rw [pad, ih]
  have e : u / 10 / 10 ^ k = u / 10 ^ (k + 1) := by rw [Nat.div_div_eq_div_mul, Nat.pow_succ, Nat.mul_comm]
  rw [e]
  rfl
theorem nDigits_pos (u : Nat) : 1 ≤ nDigits u := by
 by_cases h : u < 10
 · rw [nDigits_small h]; exact Nat.le_refl _
 rw [nDigits_big h]; omega
theorem repeat_snoc (k : Nat) : repeatL [48] (k + 1) = repeatL [48] k ++ [48] := by rw [repeatL_add]; rfl
theorem pad_zero : ∀ k, pad k 0 = repeatL [48] k
 | 0 => rfl
 | k + 1 => by rw [pad, repeat_snoc, Nat.zero_div, pad_zero k]; rfl
theorem pad_dec : ∀ k u, nDigits u ≤ k → pad k u = repeatL [48] (k - nDigits u) ++ decDigits u
 | 0, u, h => by have := nDigits_pos u; omega
 | k + 1, u, h => by
  by_cases h9 : u < 10
  · rw [pad, nDigits_small h9, show u / 10 = 0 from by omega, pad_zero, decDigits, dif_pos h9, show u % 10 = u from by omega]
    rfl
  rw [nDigits_big h9] at h ⊢
  have e : decDigits u = decDigits (u / 10) ++ [UInt8.ofNat (48 + u % 10)] := by rw [decDigits, dif_neg h9]
  rw [pad, pad_dec k (u / 10) (by omega), e, List.append_assoc, show k + 1 - (nDigits (u / 10) + 1) = k - nDigits (u / 10) from by omega]
theorem nm_pad {u : Nat} (h : u ≤ 1073741824) : nm (u : Int) = 115 :: pad 10 u := by
 unfold nm
 rw [if_pos ⟨by omega, by omega⟩, itoa_nonneg, decDigits_length, pad_dec 10 u (nDigits_le 9 u (by omega))]
def val10 (l : List UInt8) : Nat := l.foldl (fun a c => a * 10 + (c.toNat - 48)) 0
theorem val_snocM (l : List UInt8) (c : UInt8) : val10 (l ++ [c]) = val10 l * 10 + (c.toNat - 48) := by simp [val10]
def digs (l : List UInt8) : Prop := ∀ c ∈ l, 48 ≤ c.toNat ∧ c.toNat ≤ 57
theorem dig_val (d : Nat) (h : d < 10) : (UInt8.ofNat (48 + d)).toNat = 48 + d := by simp; omega
theorem val_pad : ∀ k u, u < 10 ^ k → val10 (pad k u) = u
 | 0, u, h => by simp [val10, pad] at *; omega
 | k + 1, u, h => by
  rw [pad, val_snocM, val_pad k (u / 10) (by rw [Nat.pow_succ] at h; omega), dig_val _ (Nat.mod_lt _ (by decide))]
  omega
theorem pad_digs : ∀ k u, digs (pad k u)
 | 0, _ => by intro c hc; cases hc
 | k + 1, u => by
  intro c hc
  rw [pad] at hc
  rcases List.mem_append.1 hc with hc | hc
  · exact pad_digs k _ c hc
  have : c = UInt8.ofNat (48 + u % 10) := by simpa using hc
  rw [this, dig_val _ (Nat.mod_lt _ (by decide))]
  omega
theorem pad_val (k : Nat) : ∀ l : List UInt8, l.length = k → digs l → pad k (val10 l) = l := by
 induction k with
 | zero => intro l h _; rw [List.eq_nil_of_length_eq_zero h]; rfl
 | succ k ih =>
  intro l h hd
  obtain ⟨m, c, rfl⟩ : ∃ m c, l = m ++ [c] := ⟨l.dropLast, l.getLast (by intro e; subst e; simp at h), (List.dropLast_concat_getLast _).symm⟩
  have hm : m.length = k := by simpa using h
  have hc := hd c (by simp)
  have h1 := ih m hm (fun x hx => hd x (by simp [hx]))
  rw [val_snocM, pad, show (val10 m * 10 + (c.toNat - 48)) / 10 = val10 m from by omega, h1, show (val10 m * 10 + (c.toNat - 48)) % 10 = c.toNat - 48 from by omega]
  congr 2
  apply UInt8.toNat_inj.1
  rw [dig_val _ (by omega)]
  omega
def rfst (l : List UInt8) : Int × Bool := if l.length = 11 ∧ l.headD 0 = 115 ∧ (l.drop 1).all (fun c => decide (48 ≤ c.toNat ∧ c.toNat ≤ 57)) = true ∧ val10 (l.drop 1) ≤ 1073741824 then ((val10 (l.drop 1) : Int), true) else (0, false)
theorem rfst_nm {u : Nat} (h : u ≤ 1073741824) : rfst (nm (u : Int)) = ((u : Int), true) := by
 rw [nm_pad h]
 unfold rfst
 have hv := val_pad 10 u (by omega)
 rw [if_pos ⟨by simp [pad_len], rfl, by
  rw [List.all_eq_true]
  intro c hc
  have := pad_digs 10 u c (by simpa using hc)
  simpa using this, by show val10 (pad 10 u) ≤ _; rw [hv]; exact h⟩]
 show (((val10 (pad 10 u) : Nat) : Int), true) = _
 rw [hv]
theorem rfst_yes {l : List UInt8} (h : (rfst l).2 = true) : ∃ u : Nat, u ≤ 1073741824 ∧ rfst l = ((u : Int), true) ∧ l = nm (u : Int) := by
 unfold rfst at *
 split at h
 · rename_i hc
   rw [if_pos hc]
   obtain ⟨h1, h2, h3, h4⟩ := hc
   refine ⟨val10 (l.drop 1), h4, rfl, ?_⟩
   rw [nm_pad h4, pad_val 10 (l.drop 1) (by rw [List.length_drop]; omega) (fun c hc => by have := List.all_eq_true.1 h3 c hc; simpa using this)]
   match l, h1 with
   | c :: l, _ =>
    have : c = 115 := by simpa using h2
    rw [this]
    rfl
 cases h
theorem rfst_no {l : List UInt8} (h : (rfst l).2 = false) : rfst l = (0, false) := by
 unfold rfst at *
 split at h
 · cases h
 rename_i hc; rw [if_neg hc]
theorem val_lt10 (k : Nat) : ∀ l : List UInt8, l.length = k → digs l → val10 l < 10 ^ k := by
 induction k with
 | zero => intro l h _; rw [List.eq_nil_of_length_eq_zero h]; decide
 | succ k ih =>
  intro l h hd
  obtain ⟨m, c, rfl⟩ : ∃ m c, l = m ++ [c] := ⟨l.dropLast, l.getLast (by intro e; subst e; simp at h), (List.dropLast_concat_getLast _).symm⟩
  have hm : m.length = k := by simpa using h
  have hc := hd c (by simp)
  have h1 := ih m hm (fun x hx => hd x (by simp [hx]))
  rw [val_snocM, Nat.pow_succ]
  omega
theorem rfst_short {l : List UInt8} (h : l.length ≠ 11) : rfst l = (0, false) := by
 unfold rfst; rw [if_neg (fun hc => h hc.1)]
theorem rfst_head {l : List UInt8} (h : l.headD 0 ≠ 115) : rfst l = (0, false) := by
 unfold rfst; rw [if_neg (fun hc => h hc.2.1)]
theorem rfst_bad {l : List UInt8} (c : UInt8) (hm : c ∈ l.drop 1) (h : ¬ (48 ≤ c.toNat ∧ c.toNat ≤ 57)) : rfst l = (0, false) := by
 unfold rfst; rw [if_neg (fun hc => h (by have := List.all_eq_true.1 hc.2.2.1 c hm; simpa using this))]
theorem rfst_big {l : List UInt8} (h : 1073741824 < val10 (l.drop 1)) : rfst l = (0, false) := by
 unfold rfst; rw [if_neg (fun hc => by have := hc.2.2.2; omega)]
theorem rfst_ok {l : List UInt8} (h1 : l.length = 11) (h2 : l.headD 0 = 115) (h3 : digs (l.drop 1)) (h4 : val10 (l.drop 1) ≤ 1073741824) : rfst l = ((val10 (l.drop 1) : Int), true) := by
 unfold rfst; rw [if_pos ⟨h1, h2, by rw [List.all_eq_true]; intro c hc; simpa using h3 c hc, h4⟩]
theorem rfst_fst (l : List UInt8) : rfst l = fst l := by
 cases hb : (rfst l).2 with
 | true =>
  obtain ⟨u, hu, h1, h2⟩ := rfst_yes hb
  rw [h1, h2, fst_nm (by omega) (by omega)]
 | false =>
  rw [rfst_no hb]
  cases hc : (fst l).2 with
  | false => exact (Prod.ext (fst_no hc).symm hc.symm)
  | true =>
   have h1 := fst_yes hc
   by_cases hr : 0 ≤ (fst l).1 ∧ (fst l).1 ≤ 1073741824
   · obtain ⟨u, hu⟩ := Int.eq_ofNat_of_zero_le hr.1
     rw [hu] at h1
     have := rfst_nm (u := u) (by omega)
     rw [show nm ((u : Nat) : Int) = l from h1] at this
     rw [this] at hb
     cases hb
   rw [nm_no hr] at h1
   rw [← h1, fst_nil] at hc
   cases hc
end Sgn
end
section
open Go.RowKit
open Crc
theorem stp_odd' (x : Nat) (h : x < 4294967296) (ho : ((x : Int) % 2 == 1) = true) : bits .xor .u32 ((x : Int) / 2) 3988292384 = ((stp x : Nat) : Int) := by
 have h1 : x % 2 = 1 := by have := beq_iff_eq.1 ho; omega
 have e : (x : Int) / 2 = ((x / 2 : Nat) : Int) := by omega
 rw [e, xor_poly _ (by omega)]
 unfold stp; rw [if_pos h1]
theorem stp_even' (x : Nat) (ho : ((x : Int) % 2 == 1) = false) : (x : Int) / 2 = ((stp x : Nat) : Int) := by
 have h1 : ¬ x % 2 = 1 := by have := beq_eq_false_iff_ne.1 ho; omega
 unfold stp; rw [if_neg h1, Nat.xor_zero]; omega
theorem refFold_snoc (r : Nat) (a : List Nat) (c : Nat) : refFold r (a ++ [c]) = byB (refFold r a) c := by simp [refFold]
theorem rmore_any (s : Nat) (h : s < 4294967296) (a : Option Addr) (len cap : Nat) (bs : List Nat) (w : World) (hs : Sl w w.heap.size a len cap bs) :
 Calls Tryz.prog 166 #[.int .u32 (s : Int), .slice a len cap] w fun e w' => e = .returned (.int .u32 ((more s bs : Nat) : Int)) ∧ w = w' := by
 have hle := hs.le
 have hmx := hs.max
 unfold maxLen at hmx
 have hn := not_u32 s h
 have hnl := neg_lt s
 have Hm : Hid (more s bs = neg (refFold (neg s) bs)) := by show _ = _; rw [refFold_eq]; rfl
 generalize neg s = n at hn hnl Hm
 go_enter Tryz.func166, Tryz.ntmps166
 go_wp2_with fail
 go_loop [5, 6, 7] (fun x i _ => ∃ k y : Nat, k ≤ len ∧ y < 4294967296 ∧ i = .int .i64 (k : Int) ∧ x = .int .u32 (y : Int) ∧ y = refFold n (bs.take k)) (fun _ i _ => len - (intOf i).toNat)
 case atStart => exact ⟨0, n, by omega, hnl, rfl, rfl, by simp [refFold]⟩
 case round =>
  obtain ⟨k, y, hk, hy, rfl, rfl, he⟩ := hrel
  have He := Qh he
  clear he
  by_cases hlt : k < len
  · obtain ⟨b, o, rfl, hb, hc⟩ := hs.at_ (by omega)
    have hck := hc k hlt
    have hcb := hs.lt hlt
    have Hf : Hid (byB y (bs.getD k 0) = refFold n (bs.take (k + 1))) := by
     show _ = _
     rw [List.take_succ_eq_append_getElem (by have := hs.length; omega), refFold_snoc, ← He.out, List.getD_eq_getElem?_getD, List.getElem?_eq_getElem (by have := hs.length; omega)]
     rfl
    generalize bs.getD k 0 = c at hck hcb Hf
    clear hc
    have hx : bits .xor .u32 (y : Int) (c : Int) = (((y ^^^ c : Nat)) : Int) := u32_xor_nat y c hy (by omega)
    have hxl := xor_lt32 hy (show c < 4294967296 by omega)
    have Hb : Hid (byB y c = stpN 8 (y ^^^ c)) := rfl
    generalize y ^^^ c = z at hx hxl Hb
    go_wp2_with fail
    go_loop [5, 7] (fun x i => ∃ j v : Nat, j ≤ 8 ∧ v < 4294967296 ∧ i = .int .i64 (j : Int) ∧ x = .int .u32 (v : Int) ∧ stpN (8 - j) v = stpN 8 z) (fun _ i => 8 - (intOf i).toNat)
    case atStart => exact ⟨0, z, by omega, hxl, rfl, rfl, rfl⟩
    case round =>
     obtain ⟨j, v, hj, hv, rfl, rfl, hr⟩ := hrel
     have Hr := Qh hr
     clear hr
     go_wp2
     · have ho : ((v : Int) % 2 == 1) = true := by assumption
       have hlt' : (j : Int) < 8 := by assumption
       exact ⟨⟨j + 1, stp v, by omega, stp_lt hv, by go_num, val_u32 (stp_odd' v hv ho), by rw [stpN_go j v (by omega)]; exact Hr.out⟩, by simp [intOf]; omega⟩
     · have ho : ((v : Int) % 2 == 1) = false := by assumption
       have hlt' : (j : Int) < 8 := by assumption
       exact ⟨⟨j + 1, stp v, by omega, stp_lt hv, by go_num, val_u32 (stp_even' v ho), by rw [stpN_go j v (by omega)]; exact Hr.out⟩, by simp [intOf]; omega⟩
     have hge : (8 : Int) ≤ (j : Int) := by assumption
     have e : v = refFold n (bs.take (k + 1)) := by
      have := Hr.out; rw [show 8 - j = 0 from by omega] at this
      rw [← Hf.out, Hb.out]; exact this
     exact ⟨⟨k + 1, v, by omega, hv, by go_num, rfl, e⟩, by simp [intOf]; omega⟩
  go_wp2
  go_ret
  have e : y = refFold n bs := by rw [He.out, List.take_of_length_le (by have := hs.length; omega)]
  refine ⟨ret_u32 ?_, rfl⟩
  rw [not_u32 y hy, Hm.out, e]
theorem rof_any (a : Option Addr) (len cap : Nat) (bs : List Nat) (w : World) (hs : Sl w w.heap.size a len cap bs) :
 Calls Tryz.prog 107 #[.slice a len cap] w fun e w' => e = .returned (.int .u32 ((more 0 bs : Nat) : Int)) ∧ w = w' := by
 go_enter Tryz.func107, Tryz.ntmps107
 go_wp2_with fail
 refine (rmore_any 0 (by decide) a len cap bs _ hs).mono ?_
 rintro e w1 ⟨rfl, rfl⟩
 go_wp2
 go_ret
 exact ⟨rfl, rfl⟩
end
section
open Go.RowKit
open Crc Frm
theorem rright_any (f : Fr) (ty seq : Int) (len : Nat) (h1 : f.ty = ty) (h2 : f.seq = seq) (h3 : f.body.length = len) (a : Option Addr) (cap : Nat) (w : World) :
 Calls Tryz.prog 97 #[.agg #[.int .i64 ty, .int .i64 seq, .slice a len cap]] w fun e w' => e = .returned (.bool (decide f.right)) ∧ Below w.heap.size w w' := by
 subst h1 h2 h3
 obtain ⟨ty, seq, body⟩ := f
 go_enter Tryz.func97, Tryz.ntmps97
 go_wp2
 all_goals
  go_ret
  refine ⟨?_, Qb.alloc Qn _⟩
  first
   | (refine ret_right_yes ⟨ty, seq, body⟩ ?_; simp only; omega)
   | (refine ret_right_no ⟨ty, seq, body⟩ ?_; simp only; omega)
theorem rread_any (a : Option Addr) (len cap : Nat) (bs : List Nat) (w : World) (hs : Sl w w.heap.size a len cap bs) (h4 : len ≤ 4) :
 Calls Tryz.prog 106 #[.slice a len cap] w fun e w' => e = .returned (.int .u64 ((val bs : Nat) : Int)) ∧ w = w' := by
 have hbl := hs.length
 go_enter Tryz.func106, Tryz.ntmps106
 go_wp2_with fail
 go_loop [3, 4] (fun v i => ∃ k : Nat, k ≤ len ∧ i = .int .i64 (k : Int) ∧ v = .int .u64 ((val (bs.take k) : Nat) : Int)) (fun _ i => len - (intOf i).toNat)
 case atStart => exact ⟨0, by omega, rfl, rfl⟩
 case round =>
  obtain ⟨k, hk, rfl, rfl⟩ := hrel
  by_cases hlt : k < len
  · obtain ⟨b, o, rfl, hb, hc⟩ := hs.at_ (by omega)
    have c1 := hc k hlt
    have hcb := hs.lt hlt
    have hvl : val (bs.take k) < 16777216 := by
     have h1 := val_lt (bs.take k) (fun c hc => hs.byte c (List.mem_of_mem_take hc))
     have h2 : (bs.take k).length ≤ 3 := by rw [List.length_take]; omega
     have h3 := Nat.pow_le_pow_right (n := 256) (by decide) h2
     omega
    have Hst : Hid (val (bs.take (k + 1)) = val (bs.take k) * 256 + bs.getD k 0) := by
     show _ = _
     rw [List.take_succ_eq_append_getElem (by omega), val_snoc, List.getD_eq_getElem?_getD, List.getElem?_eq_getElem (by omega)]
     rfl
    generalize val (bs.take k) = v at hvl Hst
    generalize bs.getD k 0 = c at c1 hcb Hst
    clear hc
    go_wp2
    exact ⟨⟨k + 1, by omega, by go_num, by rw [Hst.out]; go_num⟩, by simp [intOf]; omega⟩
  have hk' : k = len := by omega
  subst hk'
  rw [List.take_of_length_le (by omega)]
  go_wp2
  go_ret
  exact ⟨rfl, rfl⟩
theorem number_step (j k n : Nat) (hj : j < k) : (List.replicate (k - j) 0 ++ be j n).set (k - j - 1) (n / 256 ^ j % 256) = List.replicate (k - (j + 1)) 0 ++ be (j + 1) n := by
 obtain ⟨m, hm⟩ : ∃ m, k - j = m + 1 := ⟨k - j - 1, by omega⟩
 rw [hm, show k - (j + 1) = m from by omega, show m + 1 - 1 = m from by omega, List.replicate_succ', List.append_assoc, List.set_append_right _ _ (by simp)]
 simp [be]
theorem number_any (n k : Nat) (hn : n < 4294967296) (hk4 : k ≤ 4) (h1 : 1 ≤ k) (w : World) :
 Calls Tryz.prog 154 #[.int .u64 (n : Int), .int .i64 (k : Int)] w fun e w' => ∃ g, e = .returned (.slice (some ⟨g, 0, none⟩) k k) ∧ OwnB w' w.heap.size 5 (.slice (some ⟨g, 0, none⟩) k k) (be k n) ∧ Below w.heap.size w w' := by
 obtain ⟨i8, hi8, hz0, hz1, hz2⟩ := info_parts info_u8
 go_enter Tryz.func154, Tryz.ntmps154
 go_wp2_with (at_make; refine wpList_make_full _ rfl (.tmp 7) (.tmp 7) 38 rfl w.heap.size 5 i8 (.int .u8 0) 1 Tryz.underlying38 hi8 hz0 hz1 .i64 .i64 _ _ k rfl rfl rfl rfl (by rw [hz2]; omega) (by unfold maxLen; omega) Qn ?_; intro w2 hown hg)
 have hown1 := OwnB.made hown
 have hB2 : Below w.heap.size w w2 := Qb.grown hg Qn (fun k hk => by cases hk)
 clear hown hg
 go_loopw [0, 6] (fun x i wx => ∃ j : Nat, j ≤ k ∧ x = .int .u64 ((n / 256 ^ j : Nat) : Int) ∧ i = .int .i64 ((k : Int) - 1 - (j : Int)) ∧ OwnB wx w.heap.size 5 (.slice (some ⟨w.heap.size, 0, none⟩) k k) (List.replicate (k - j) 0 ++ be j n) ∧ Below w.heap.size w wx)
  (fun _ i _ => (intOf i + 1).toNat)
 case atStart => exact ⟨0, by omega, by simp, by simp, by simpa [be] using hown1, hB2⟩
 case round =>
  obtain ⟨j, hj, rfl, rfl, ho, hB⟩ := hrel
  by_cases hlt : j < k
  · have hkc := ho.cell (k := k - 1 - j) (by simp [be_len]; omega)
    have hset := ho.set_ (k - j - 1) (n / 256 ^ j % 256)
    rw [number_step j k n hlt] at hset
    have hle : n / 256 ^ j < 4294967296 := Nat.lt_of_le_of_lt (Nat.div_le_self _ _) hn
    have hdv : Hid (n / 256 ^ (j + 1) = n / 256 ^ j / 256) := by show _ = _; rw [Nat.pow_succ, Nat.div_div_eq_div_mul]
    have H := Qh (Qa hset hB)
    clear hset ho hB hown1 hB2
    generalize n / 256 ^ j = m at hle hdv H
    obtain ⟨q, hq⟩ : ∃ q, q = k - 1 - j := ⟨_, rfl⟩
    have hqi : (k : Int) - 1 - (j : Int) = (q : Int) := by omega
    rw [hqi]
    rw [← hq] at hkc
    rw [show k - j - 1 = q from by omega] at H
    have hq1 : (q : Int) < (k : Int) := by omega
    have HQ := Qh hq
    clear hqi hq
    go_wp2
    have hq := HQ.out
    have hm := H.out.1
    refine ⟨⟨j + 1, by omega, by rw [hdv.out]; go_num, by go_num, ?_, H.out.2.setCell (p := ⟨w.heap.size, q, none⟩) Qn _⟩, by first | (simp [intOf]; done) | (simp [intOf]; omega)⟩
    first | exact hm | (have e : Value.int .u8 ((m : Int) % 256) = bv (m % 256) := rfl; rw [e]; exact hm)
  have hjk : j = k := by omega
  subst hjk
  rw [show (j : Int) - 1 - (j : Int) = -1 from by omega]
  go_wp2
  go_ret
  exact ⟨_, rfl, by simpa using ho, hB⟩
theorem own_two {w : World} {base : Nat} {e : TypeId} {v : Value} {b2 : List Nat} (h2 : b2.length = 2) (h : OwnB w base e v b2) : w.ownsRow base e 1 v 2 (b2.map bv) := by
 have := h
 unfold OwnB at this
 rwa [h2] at this
theorem own_three {w : World} {base : Nat} {e : TypeId} {v : Value} {b2 : List Nat} {t : Nat} (h2 : b2.length = 2) (h : w.ownsRow base e 1 v (2 + 1) (b2.map bv ++ [.int .u8 (t : Int)])) : OwnB w base e v (b2 ++ [t]) := by
 unfold OwnB
 rw [List.length_append, h2, List.map_append]
 exact h
theorem own_ge {w : World} {base : Nat} {e : TypeId} {g n cap : Nat} {bs : List Nat} (h : OwnB w base e (.slice (some ⟨g, 0, none⟩) n cap) bs) : base ≤ g := (h.at_base rfl).1
theorem rput_any (f : Fr) (a : Option Addr) (cap : Nat) (w : World) (hs : Sl w w.heap.size a f.body.length cap f.body) :
 Calls Tryz.prog 98 #[.agg #[.int .i64 f.ty, .int .i64 f.seq, .slice a f.body.length cap]] w fun e w' => ∃ v, e = .returned v ∧ OwnB w' w.heap.size 5 v (put f) ∧ Below w.heap.size w w' := by
 have hB0 : ∀ o, Below w.heap.size w (w.alloc o) := fun o => Qb.alloc Qn o
 by_cases hr : f.right
 · have hp : put f = raw f := by unfold put; rw [if_pos hr]
   rw [hp]
   obtain ⟨h1, h2, h3, h4, h5⟩ := id hr
   obtain ⟨t, ht⟩ := Int.eq_ofNat_of_zero_le (show 0 ≤ f.ty by omega)
   obtain ⟨s, hsq⟩ := Int.eq_ofNat_of_zero_le h3
   have R := Qh (rright_any f t s f.body.length ht hsq rfl a cap)
   rw [decide_eq_true hr] at R
   rw [ht, hsq]
   have Hraw : Hid (raw f = (be 2 f.body.length ++ [t]) ++ be 4 s ++ f.body ++ be 4 (more 0 ((be 2 f.body.length ++ [t]) ++ be 4 s ++ f.body))) := by
    have e1 : f.ty.toNat = t := by rw [ht]; rfl
    have e2 : f.seq.toNat = s := by rw [hsq]; rfl
    have e3 : be 1 t = [t] := by simp [be]; omega
    show _ = _
    simp [raw, sm, hd, e1, e2, e3]
   have ht16 : t ≤ 15 := by omega
   have hs30 : s ≤ 1073741824 := by omega
   clear h1 h2 h3 h4 ht hsq hp
   obtain ⟨body, hbody⟩ : ∃ b, b = f.body := ⟨_, rfl⟩
   rw [← hbody] at hs Hraw R h5 ⊢
   obtain ⟨len, hlen⟩ : ∃ l, l = body.length := ⟨_, rfl⟩
   rw [← hlen] at hs Hraw R h5 ⊢
   have Hlen := Qh hlen
   clear hbody hlen
   obtain ⟨i8, hi8, hz0, hz1, hz2⟩ := info_parts info_u8
   go_enter Tryz.func98, Tryz.ntmps98
   go_wp2_with fail
   refine (R.out _).mono ?_
   rintro e w1 ⟨rfl, hb1⟩
   have hx1 := (hb1.block w.heap.size (by simp)).trans (heap_alloc_new _ _)
   have hB1 := (hB0 (.cells #[.int .i64 (t : Int), .int .i64 (s : Int), .slice a len cap] 69)).trans (hb1.mono (by simp))
   have hz1' := lt_of_heap hx1
   have k0 := (cell_of_row w1 w.heap.size 0 _ _ _ hx1).trans rfl
   have k2 := (cell_of_row w1 w.heap.size 2 _ _ _ hx1).trans rfl
   have Hx := Qh (Qa hx1 hB1)
   have NU := Qh (number_any len 2 (by omega) (by decide) (by decide))
   have h2l : (be 2 len).length = 2 := be_len 2 len
   have hbl2 := be_byte 2 len
   generalize be 2 len = b2 at NU Hraw h2l hbl2
   have hw1 : IntKind.u64.wrap (len : Int) = (len : Int) := by rw [IntKind.wrap_u64]; omega
   have hw2 : IntKind.u8.wrap (t : Int) = (t : Int) := by rw [IntKind.wrap_u8]; omega
   clear hx1 hB1 hb1
   go_wp2_with fail
   go_cut [3] from 4 (fun v wx => ∃ g c, v = .slice (some ⟨g, 0, none⟩) 3 c ∧ OwnB wx (w.heap.size + 1) 5 (.slice (some ⟨g, 0, none⟩) 3 c) (b2 ++ [t]) ∧ Below w1.heap.size w1 wx)
   case first =>
    go_region_held3 (fun w' => w'.cell? ⟨w.heap.size, 0, none⟩ = some (.int .i64 (t : Int)) ∧ w'.cell? ⟨w.heap.size, 2, none⟩ = some (.slice a len cap))
     (first | exact ⟨e0, e2⟩ | exact ⟨d0, d2⟩ | exact ⟨k0, k2⟩ | exact ⟨d0a _, d2a _⟩ | exact ⟨f0, f2⟩ | exact ⟨(World.cell?_alloc_past _ _ _ hz1').trans k0, (World.cell?_alloc_past _ _ _ hz1').trans k2⟩)
     (first
      | (go_at_call 154; refine (NU.out w1.drew).mono ?_; rintro e w4 ⟨g4, rfl, ho4, hb4⟩; have d0 := (hb4.cell (p := ⟨w.heap.size, 0, none⟩) hz1').trans k0; have d2 := (hb4.cell (p := ⟨w.heap.size, 2, none⟩) hz1').trans k2; have hz4 : w.heap.size < w4.heap.size := Nat.lt_of_lt_of_le hz1' hb4.size; have d0a : ∀ o, (w4.alloc o).cell? ⟨w.heap.size, 0, none⟩ = _ := fun o => (World.cell?_alloc_past _ _ _ hz4).trans d0; have d2a : ∀ o, (w4.alloc o).cell? ⟨w.heap.size, 2, none⟩ = _ := fun o => (World.cell?_alloc_past _ _ _ hz4).trans d2; have ho5 := own_two h2l (ho4.mono (base' := w.heap.size + 1) hz1'); have hwb := (Below.drew (Below.refl w1.heap.size w1)).trans hb4; have hge4 : w1.heap.size ≤ g4 := own_ge ho4)
      | (go_at_call 154; refine (NU.out _).mono ?_; rintro e w4 ⟨g4, rfl, ho4, hb4⟩; have f0 := (hb4.cell (p := ⟨w.heap.size, 0, none⟩) (by simp; omega)).trans ((World.cell?_alloc_past _ _ _ hz1').trans k0); have f2 := (hb4.cell (p := ⟨w.heap.size, 2, none⟩) (by simp; omega)).trans ((World.cell?_alloc_past _ _ _ hz1').trans k2); have hlit := (hb4.block w1.heap.size (by simp)).trans (heap_alloc_new w1 _); have ho6 := own_two h2l (ho4.mono (base' := w.heap.size + 1) (by simp; omega)); have hb6 := (Below.drew ((Below.refl w1.heap.size w1).alloc Qn _)).trans (hb4.mono (by simp)); have hge4 : w1.heap.size ≤ g4 := by have := own_ge ho4; simp at this; omega)
      | (refine step_append_lies _ rfl (.tmp 11) (.tmp 15) 38 rfl (w.heap.size + 1) 5 i8 (.int .u8 0) 1 1 Tryz.underlying38 hi8 hz0 hz1 hz2 rfl (by decide) (.slice (some ⟨g4, 0, none⟩) 2 2) 2 (b2.map bv) rfl (ho5.alloc _) ⟨w4.heap.size, 0, none⟩ 1 1 [.int .u8 (t : Int)] rfl rfl (World.news_of_block (heap_alloc_new _ _)) (by intro u hu; simp at hu; subst hu; rfl) (by decide) (by decide) (by decide) (by simp; omega) _ rfl ?_; intro g5 c5 w5 h1 h2 h3 h4; have e0 := h2.cell (d0a _) (by simp [Value.ownBlock]; omega); have e2 := h2.cell (d2a _) (by simp [Value.ownBlock]; omega); have h7 := own_three h2l h1; have hb7 := (hwb.alloc hwb.size _).grown h2 (by have := hwb.size; simp; omega) (fun k hk => by simp [Value.ownBlock] at hk; omega))
      | (refine step_append_lies _ rfl (.tmp 11) (.tmp 15) 38 rfl (w.heap.size + 1) 5 i8 (.int .u8 0) 1 1 Tryz.underlying38 hi8 hz0 hz1 hz2 rfl (by decide) (.slice (some ⟨g4, 0, none⟩) 2 2) 2 (b2.map bv) rfl ho6 ⟨w1.heap.size, 0, none⟩ 1 1 [.int .u8 (t : Int)] rfl rfl (World.news_of_block hlit) (by intro u hu; simp at hu; subst hu; rfl) (by decide) (by decide) (by decide) (by have := hb6.size; simp; omega) _ rfl ?_; intro g5 c5 w5 h1 h2 h3 h4; have e0 := h2.cell f0 (by simp [Value.ownBlock]; omega); have e2 := h2.cell f2 (by simp [Value.ownBlock]; omega); have h7 := own_three h2l h1; have hb7 := hb6.grown h2 hb6.size (fun k hk => by simp [Value.ownBlock] at hk; omega)))
    all_goals
     go_wp2_with fail
     go_meet
     case rel => exact ⟨g5, c5, rfl, h7, hb7⟩
   case rest =>
    obtain ⟨g, c, rfl, ho, hBc⟩ := hcut
    have hB1 := Hx.out.2.trans (hBc.mono Hx.out.2.size)
    have hx2 := (hBc.block w.heap.size hz1').trans Hx.out.1
    have hzc := lt_of_heap hx2
    have k1 := (cell_of_row wc w.heap.size 1 _ _ _ hx2).trans rfl
    have hl3 : (b2 ++ [t]).length = 3 := by rw [List.length_append, h2l]; rfl
    have hb3 : ∀ c ∈ b2 ++ [t], c < 256 := by
     intro c hc
     rcases List.mem_append.1 hc with h | h
     · exact hbl2 c h
     simp at h; omega
    generalize b2 ++ [t] = b3 at ho hl3 hb3 Hraw
    have hw3 : IntKind.u64.wrap (s : Int) = (s : Int) := by rw [IntKind.wrap_u64]; omega
    have NU4 := Qh (number_any s 4 (by omega) (by decide) (by decide) wc)
    have hbe4 := be_byte 4 s
    have hbl4 := be_len 4 s
    generalize be 4 s = b4 at NU4 Hraw hbe4 hbl4
    have H2 := Qh (Qa hx2 (Qa hB1 ho))
    clear hx2 hB1 ho k0 k2 Hx hBc NU hw1 hw2 h2l hbl2
    go_wp2_with fail
    refine NU4.out.mono ?_
    rintro e w4 ⟨g4, rfl, ho4, hb4⟩
    have hs4 := ho4.sl hbe4
    rw [hbl4] at hs4
    obtain ⟨a4, c4, hv4, hs4⟩ := hs4
    have ha4 : a4 = some ⟨g4, 0, none⟩ := by injection hv4 with h1 h2 h3; exact h1.symm
    have hc4 : c4 = 4 := by injection hv4 with h1 h2 h3; exact h3.symm
    subst ha4 hc4
    have ho3 := H2.out.2.2.below hb4
    have hx4 := (hb4.block w.heap.size hzc).trans H2.out.1
    have hB4 := H2.out.2.1.trans (hb4.mono H2.out.2.1.size)
    have hz4 := lt_of_heap hx4
    clear hb4 H2 hv4 ho4 k1
    go_upto_region 5 with (at_builtin; refine wpList_append_sl rfl (.tmp 17) (.tmp 21) _ rfl (w.heap.size + 1) _ Tryz.underlying38 info_u8 (.slice (some ⟨g, 0, none⟩) 3 c) b3 rfl ho3 _ (some ⟨g4, 0, none⟩) 4 4 b4 rfl hs4 (by omega) (by omega) ?_; intro v5 w5 ho5 hg5 hat5; have hx5 := (hg5.block w.heap.size hz4 (by have := own_ge ho3; simp [Value.ownBlock]; omega)).trans hx4; have k2 := (cell_of_row w5 w.heap.size 2 _ _ _ hx5).trans rfl)
    have hB5 : Below w.heap.size w w5 := hB4.grown hg5 hB4.size (fun k hk => by have := (ho3.at_base hk).1; omega)
    have hz5 := lt_of_heap hx5
    have hl5 : (b3 ++ b4).length = 7 := by rw [List.length_append]; omega
    have hb5 : ∀ c ∈ b3 ++ b4, c < 256 := by
     intro c hc
     rcases List.mem_append.1 hc with h | h
     · exact hb3 c h
     exact hbe4 c h
    generalize b3 ++ b4 = b5 at ho5 hl5 hb5 Hraw
    have hsb := hs.below hB5 Qn
    clear hg5 hat5 hx4 hB4 hs4 ho3
    go_wp2_with (at_builtin; refine wpList_append_sl rfl (.tmp 23) (.tmp 25) _ rfl (w.heap.size + 1) _ Tryz.underlying38 info_u8 v5 b5 rfl ho5 _ a len cap body rfl hsb (by omega) (by omega) ?_; intro v6 w6 ho6 hg6 hat6)
    have hB6 : Below w.heap.size w w6 := hB5.grown hg6 hB5.size (fun k hk => by have := (ho5.at_base hk).1; omega)
    have hz6 := Nat.lt_of_lt_of_le hz5 hg6.size
    have hb6 : ∀ c ∈ b5 ++ body, c < 256 := by
     intro c hc
     rcases List.mem_append.1 hc with h | h
     · exact hb5 c h
     exact hs.byte c h
    have hl6 : (b5 ++ body).length = len + 7 := by rw [List.length_append]; have := Hlen.out; omega
    obtain ⟨a6, cap6, hv6, hs6⟩ := ho6.sl hb6
    generalize b5 ++ body = b6 at ho6 hv6 hs6 hl6 Hraw hb6
    rw [hl6] at hv6 hs6
    subst hv6
    have ml := more_lt 0 b6
    have hw6 : IntKind.u64.wrap ((more 0 b6 : Nat) : Int) = ((more 0 b6 : Nat) : Int) := by rw [IntKind.wrap_u64]; omega
    have OF := Qh (rof_any a6 (len + 7) cap6 b6 w6 hs6)
    have NM := Qh (number_any (more 0 b6) 4 ml (by decide) (by decide) w6)
    generalize more 0 b6 = m at ml hw6 OF NM Hraw
    have hbe6 := be_byte 4 m
    have hbl6 := be_len 4 m
    generalize be 4 m = bm at NM Hraw hbe6 hbl6
    have H6 := Qh (Qa ho6 hB6)
    clear hg6 hat6 ho6 hB6 hx5 hB5 ho5 hsb hs6 k2
    refine OF.out.mono ?_
    rintro e w7 ⟨rfl, rfl⟩
    go_wp2_with fail
    refine NM.out.mono ?_
    rintro e w8 ⟨g8, rfl, ho8, hb8⟩
    have hs8 := ho8.sl hbe6
    rw [hbl6] at hs8
    obtain ⟨a8, c8, hv8, hs8⟩ := hs8
    have ha8 : a8 = some ⟨g8, 0, none⟩ := by injection hv8 with h1 h2 h3; exact h1.symm
    have hc8 : c8 = 4 := by injection hv8 with h1 h2 h3; exact h3.symm
    subst ha8 hc8
    have ho9 := H6.out.1.below hb8
    have hB8 := H6.out.2.trans (hb8.mono H6.out.2.size)
    have hz8 := Nat.lt_of_lt_of_le hz6 hb8.size
    clear hb8 H6 hv8 ho8 NM OF
    go_wp2_with (at_builtin; refine wpList_append_sl rfl (.tmp 27) (.tmp 31) _ rfl (w.heap.size + 1) _ Tryz.underlying38 info_u8 (.slice a6 (len + 7) cap6) b6 rfl ho9 _ (some ⟨g8, 0, none⟩) 4 4 bm rfl hs8 (by omega) (by omega) ?_; intro v9 w9 ho10 hg9 hat9)
    have hB9 : Below w.heap.size w w9 := hB8.grown hg9 hB8.size (fun k hk => by have := (ho9.at_base hk).1; omega)
    rw [← Hraw.out] at ho10
    have H9 := Qh (Qa (ho10.mono (base' := w.heap.size) (by omega)) hB9)
    clear ho10 hB9 hg9 hat9 ho9 hB8
    go_ret
    exact ⟨_, rfl, H9.out.1, H9.out.2⟩
 have hp : put f = [] := by unfold put; rw [if_neg hr]
 rw [hp]
 have R := Qh (rright_any f f.ty f.seq f.body.length rfl rfl rfl a cap)
 rw [decide_eq_false hr] at R
 go_enter Tryz.func98, Tryz.ntmps98
 go_wp2_with fail
 refine (R.out _).mono ?_
 rintro e w1 ⟨rfl, hb1⟩
 have hB1 := (hB0 (.cells #[.int .i64 f.ty, .int .i64 f.seq, .slice a f.body.length cap] 69)).trans (hb1.mono (by simp))
 go_wp2
 go_ret
 exact ⟨_, rfl, OwnB.nil_ _ _ _, hB1⟩
end
section
open Go.RowKit
open Crc Frm
open Sgn
theorem head_at : ∀ (s : ByteArray) (p0 : 0 < s.size), s.data.toList.headD 0 = s[0]
 | ⟨⟨[]⟩⟩, p0 => absurd p0 (by decide)
 | ⟨⟨_ :: _⟩⟩, _ => rfl
theorem drop_step (s : ByteArray) (k : Nat) (h : k + 1 < s.size) : (s.data.toList.drop 1).take (k + 1) = (s.data.toList.drop 1).take k ++ [s[k + 1]] := by
 rw [List.take_succ_eq_append_getElem (by simp; omega)]
 congr 2
 rw [List.getElem_drop]
 show _ = s.data.toList[k + 1]'(by simpa using h)
 congr 1
 omega
theorem digs_snoc {l : List UInt8} {c : UInt8} (h : digs l) (hc : 48 ≤ c.toNat ∧ c.toNat ≤ 57) : digs (l ++ [c]) := by
 intro x hx
 rcases List.mem_append.1 hx with hx | hx
 · exact h x hx
 have : x = c := by simpa using hx
 rw [this]; exact hc
theorem rfirst_any (s : ByteArray) (hs : s.size ≤ 140737488355328) (w : World) : Calls Tryz.prog 91 #[.string s] w fun e w' =>
 e = .returned (.tuple #[.int .i64 (rfst s.data.toList).1, .bool (rfst s.data.toList).2]) ∧ w = w' := by
 have hlen : s.data.toList.length = s.size := by simp
 by_cases h11 : s.size = 11
 · have p0 : 0 < s.size := by omega
   have hh := head_at s p0
   by_cases hc : s[0].toNat = 115
   · have hb0 : ((s[0].toNat : Int) != 115) = false := by rw [hc]; rfl
     have Hh : Hid (s.data.toList.headD 0 = 115) := by show _ = _; rw [hh]; exact UInt8.toNat_inj.1 hc
     have Hl : Hid (s.data.toList.length = 11) := hlen.trans h11
     have h11b : ((s.size : Int) != 11) = false := by rw [h11]; rfl
     have H11 := Qh h11
     clear hh hc hlen h11
     go_enter Tryz.func91, Tryz.ntmps91
     go_wp2_with fail
     go_loop [4, 5] (fun v i => ∃ k : Nat, k ≤ 10 ∧ i = .int .i64 ((k : Int) + 1) ∧ v = .int .i64 ((val10 ((s.data.toList.drop 1).take k) : Nat) : Int) ∧ Hid (digs ((s.data.toList.drop 1).take k))) (fun _ i => 11 - (intOf i).toNat)
     case atStart => exact ⟨0, by omega, rfl, rfl, by intro c hc; cases hc⟩
     case round =>
      obtain ⟨k, hk, rfl, rfl, hd⟩ := hrel
      have hvl : val10 ((s.data.toList.drop 1).take k) < 10000000000 := by
       have h1 := val_lt10 k ((s.data.toList.drop 1).take k) (by have := Hl.out; simp; simp at this; omega) hd.out
       have h2 := Nat.pow_le_pow_right (n := 10) (by decide) hk
       omega
      by_cases hlt : k < 10
      · have hix : k + 1 < s.size := by have := H11.out; omega
        have hst := drop_step s k hix
        by_cases hg : 48 ≤ s[k + 1].toNat ∧ s[k + 1].toNat ≤ 57
        · have Hn : Hid (val10 ((s.data.toList.drop 1).take (k + 1)) = val10 ((s.data.toList.drop 1).take k) * 10 + (s[k + 1].toNat - 48)) := by show _ = _; rw [hst, Sgn.val_snocM]
          have Hd : Hid (digs ((s.data.toList.drop 1).take (k + 1))) := by show digs _; rw [hst]; exact digs_snoc hd.out hg
          have g0 := hg.1
          have g1 := hg.2
          clear hst hg hd
          generalize val10 ((s.data.toList.drop 1).take k) = v at hvl Hn
          go_wp2
          go_round
          case rel => exact ⟨k + 1, by omega, by go_num, by rw [Hn.out]; go_num, Hd⟩
          case measure => simp [intOf]; omega
        have Hr := Qh (rfst_bad (l := s.data.toList) s[k + 1] (by have : s[k + 1] ∈ (s.data.toList.drop 1).take (k + 1) := (by rw [hst]; simp); exact List.mem_of_mem_take this) hg)
        clear hst hd
        rcases Nat.lt_or_ge s[k + 1].toNat 48 with g0 | g0
        · clear hg
          go_wp2
          go_ret2
          exact ⟨by rw [Hr.out]; rfl, rfl⟩
        have g1 : 57 < s[k + 1].toNat := by omega
        clear hg
        go_wp2
        go_ret2
        exact ⟨by rw [Hr.out]; rfl, rfl⟩
      have hk' : k = 10 := by omega
      subst hk'
      have he : (s.data.toList.drop 1).take 10 = s.data.toList.drop 1 := List.take_of_length_le (by have := Hl.out; simp; simp at this; omega)
      rw [he] at hd hvl ⊢
      have HV : Hid (val10 (s.data.toList.drop 1) = val10 (s.data.toList.drop 1)) := rfl
      generalize hv : val10 (s.data.toList.drop 1) = v at hvl ⊢
      clear he HV
      have hv := Qh hv
      by_cases hb : v ≤ 1073741824
      · have Hr := Qh (rfst_ok Hl.out Hh.out hd.out (by rw [hv.out]; exact hb))
        go_wp2
        go_ret2
        exact ⟨by rw [Hr.out, hv.out]; rfl, rfl⟩
      have Hr := Qh (rfst_big (l := s.data.toList) (by rw [hv.out]; omega))
      go_wp2
      go_ret2
      exact ⟨by rw [Hr.out]; rfl, rfl⟩
   have hb0 : ((s[0].toNat : Int) != 115) = true := by rw [bne_iff_ne]; omega
   have Hr := Qh (rfst_head (l := s.data.toList) (by rw [hh]; intro e; rw [e] at hc; exact hc rfl))
   have h11b : ((s.size : Int) != 11) = false := by rw [h11]; rfl
   clear hh hc hlen h11
   go_enter Tryz.func91, Tryz.ntmps91
   go_wp2_with fail
   go_ret2
   exact ⟨by rw [Hr.out]; rfl, rfl⟩
 have Hr := Qh (rfst_short (l := s.data.toList) (by omega))
 have h11b : ((s.size : Int) != 11) = true := by rw [bne_iff_ne]; omega
 clear hlen h11
 go_enter Tryz.func91, Tryz.ntmps91
 go_wp2_with fail
 go_ret2
 exact ⟨by rw [Hr.out]; rfl, rfl⟩
theorem rname_no (n : Int) (h : ¬ (0 ≤ n ∧ n ≤ 1073741824)) (w : World) : Calls Tryz.prog 56 #[.int .i64 n] w fun e w' => e = .returned (.string ⟨(nm n).toArray⟩) ∧ Below w.heap.size w w' := by
 rw [nm_no h]
 rcases Int.lt_or_le n 0 with h0 | h0
 · have d0 : decide (n < 0) = true := by simpa using h0
   clear h
   go_enter Tryz.func56, Tryz.ntmps56
   go_wp2_with fail
   go_ret
   exact ⟨rfl, Below.refl _ _⟩
 have d0 : decide (n < 0) = false := by simp; omega
 have d1 : decide (1073741824 < n) = true := by simp; omega
 clear h
 go_enter Tryz.func56, Tryz.ntmps56
 go_wp2_with fail
 go_ret
 exact ⟨rfl, Below.refl _ _⟩
theorem rname_yes (u : Nat) (h : u ≤ 1073741824) (w : World) : Calls Tryz.prog 56 #[.int .i64 (u : Int)] w fun e w' => e = .returned (.string ⟨(nm (u : Int)).toArray⟩) ∧ Below w.heap.size w w' := by
 rw [nm_pad h]
 have d0 : decide ((u : Int) < 0) = false := by simp
 have d1 : decide ((1073741824 : Int) < (u : Int)) = false := by simp; omega
 go_enter Tryz.func56, Tryz.ntmps56
 go_wp2_with fail
 go_loopw [0, 3, 4] (fun n z i wx => ∃ k : Nat, k ≤ 10 ∧ i = .int .i64 (k : Int) ∧ n = .int .i64 ((u / 10 ^ k : Nat) : Int) ∧ z = .string ⟨(pad k u).toArray⟩ ∧ Below w.heap.size w wx) (fun _ _ i _ => 10 - (intOf i).toNat)
 case atStart => exact ⟨0, by omega, rfl, by simp, rfl, Below.refl _ _⟩
 case round =>
  obtain ⟨k, hk, rfl, rfl, rfl, hB⟩ := hrel
  have hpl := pad_len k u
  by_cases hlt : k < 10
  · have Hp : Hid (pad (k + 1) u = UInt8.ofNat (48 + u / 10 ^ k % 10) :: pad k u) := pad_cons k u
    have Hd : Hid (u / 10 ^ (k + 1) = u / 10 ^ k / 10) := by show _ = _; rw [Nat.pow_succ, Nat.div_div_eq_div_mul]
    have hle : u / 10 ^ k ≤ 1073741824 := Nat.le_trans (Nat.div_le_self _ _) h
    generalize u / 10 ^ k = m at Hp Hd hle ⊢
    generalize pad k u = p at Hp hpl ⊢
    have sl : Sl (wr.alloc (.cells #[.int .u8 (48 + (m : Int) % 10)] 5)) _ (some ⟨wr.heap.size, 0, none⟩) 1 1 [48 + m % 10] := Sl.new (bs := [48 + m % 10]) (heap_alloc_new wr _) (by rfl) (by intro c hc; have : c = 48 + m % 10 := (by simpa using hc); omega) 1 rfl (by show 1 ≤ maxLen; decide)
    have cv := run_str (P := Tryz.prog) sl 38 5 9 Tryz.underlying38 Tryz.underlying5 Tryz.underlying9
    clear sl
    obtain ⟨c, hc⟩ : ∃ c, c = UInt8.ofNat (48 + m % 10) := ⟨_, rfl⟩
    have hz : (strOf [48 + m % 10]) = ⟨#[c]⟩ := by rw [hc]; rfl
    rw [hz] at cv
    rw [← hc] at Hp
    clear hz hc
    go_wp2
    go_round
    case rel => exact ⟨k + 1, by omega, by go_num, by rw [Hd.out]; go_num, by rw [Hp.out]; exact congrArg Value.string (ByteArray.ext (by simp)), hB.alloc hB.size _⟩
    case measure => simp [intOf]; omega
  have hk' : k = 10 := by omega
  subst hk'
  go_wp2
  go_ret
  exact ⟨ret_str (by apply ByteArray.ext; simp), hB⟩
theorem rsname_any (n : Int) (w : World) : Calls Tryz.prog 56 #[.int .i64 n] w fun e w' => e = .returned (.string ⟨(nm n).toArray⟩) ∧ Below w.heap.size w w' := by
 by_cases h : 0 ≤ n ∧ n ≤ 1073741824
 · obtain ⟨u, rfl⟩ := Int.eq_ofNat_of_zero_le h.1
   exact rname_yes u (by omega) w
 exact rname_no n h w
theorem own_sl {w : World} {base g k c : Nat} {e : TypeId} {bs : List Nat} (h : OwnB w base e (.slice (some ⟨g, 0, none⟩) k c) bs) (hb : ∀ x ∈ bs, x < 256) : Sl w w.heap.size (some ⟨g, 0, none⟩) k c bs := by
 obtain ⟨a, cap, hv, hs⟩ := h.sl hb
 cases hv
 exact hs
theorem rhead_no (n : Int) (h : ¬ (0 ≤ n ∧ n ≤ 1073741824)) (w : World) : Calls Tryz.prog 92 #[.int .i64 n] w fun e w' => e = .returned (.slice none 0 0) ∧ w = w' := by
 rcases Int.lt_or_le n 0 with h0 | h0
 · have d0 : decide (n < 0) = true := by simpa using h0
   clear h
   go_enter Tryz.func92, Tryz.ntmps92
   go_wp2_with fail
   go_ret
   exact ⟨rfl, rfl⟩
 have d0 : decide (n < 0) = false := by simp; omega
 have d1 : decide (1073741824 < n) = true := by simp; omega
 clear h
 go_enter Tryz.func92, Tryz.ntmps92
 go_wp2_with fail
 go_ret
 exact ⟨rfl, rfl⟩
theorem rhead_yes (n : Nat) (hn : n ≤ 1073741824) (w : World) :
 Calls Tryz.prog 92 #[.int .i64 (n : Int)] w fun e w' => ∃ v, e = .returned v ∧ OwnB w' w.heap.size 5 v (head n) ∧ Below w.heap.size w w' := by
 have d0 : decide ((n : Int) < 0) = false := by simp
 have d1 : decide ((1073741824 : Int) < (n : Int)) = false := by simp; omega
 have hwn : IntKind.u64.wrap (n : Int) = (n : Int) := by rw [IntKind.wrap_u64]; omega
 have kc := fun (w : World) (C : Array Value) (n c : Nat) => Lib.run_convert_bytes_const (P := Tryz.prog) w 38 5 C n c Tryz.underlying38 Tryz.underlying5
 obtain ⟨wA, hwA⟩ : ∃ wA, wA = w.alloc (.cells #[.int .u8 71, .int .u8 79, .int .u8 86, .int .u8 49] 5 (4, 5)) := ⟨_, rfl⟩
 have sA : Sl wA wA.heap.size (some ⟨w.heap.size, 0, none⟩) 4 4 magic := by rw [hwA]; exact Sl.new (bs := magic) (heap_alloc_new w _) (by rfl) (by decide) 4 rfl (by decide)
 have bA : Below w.heap.size w wA := by rw [hwA]; exact Qb.alloc Qn _
 have NU := Qh (number_any n 4 (by omega) (by decide) (by decide) wA)
 have HA := Qh (Qa sA bA)
 have HwA := Qh hwA.symm
 clear sA bA hwA
 go_enter Tryz.func92, Tryz.ntmps92
 go_wp2_with (first
  | (go_at_call 154; rw [HwA.out]; refine NU.out.mono ?_; rintro e w2 ⟨g, rfl, ho2, hb2⟩; have H2 := Qh (Qa ho2 hb2); have s4 := Qh (HA.out.1.below hb2 Qn); clear ho2 hb2)
  | (at_builtin; refine wpList_append_full rfl (.tmp 11) (.tmp 14) _ rfl _ Tryz.underlying38 info_u8 _ ⟨w.heap.size, 0, none⟩ 4 magic rfl s4.out _ ⟨g, 0, none⟩ 4 4 (be 4 n) rfl (own_sl H2.out.1 (be_byte 4 n)) (by decide) (by decide) ?_; intro v3 w3 ho3 hb3; have H3 := Qh (Qa (ho3.mono (base' := w.heap.size) (Nat.le_trans HA.out.2.size H2.out.2.size)) (HA.out.2.trans ((H2.out.2.mono HA.out.2.size).trans (hb3.mono (Nat.le_trans HA.out.2.size H2.out.2.size))))); clear ho3 hb3)
  | fail)
 obtain ⟨a3, c3, hv3, hs3⟩ := H3.out.1.sl (hd0_byte n)
 rw [show (magic ++ be 4 n).length = 8 from hd0_len n] at hv3 hs3
 subst hv3
 have OF := Qh (rof_any a3 8 c3 _ w3 hs3)
 have hml := more_lt 0 (magic ++ be 4 n)
 have HH : Hid (head n = (magic ++ be 4 n) ++ be 4 (more 0 (magic ++ be 4 n))) := rfl
 have hl8 : (magic ++ be 4 n).length = 8 := hd0_len n
 clear hs3 s4 H2 HA HwA NU kc hwn
 generalize magic ++ be 4 n = b8 at H3 OF hml HH hl8
 generalize more 0 b8 = q at OF hml HH
 refine OF.out.mono ?_
 rintro e w4 ⟨rfl, rfl⟩
 have hwq : IntKind.u64.wrap (q : Int) = (q : Int) := by rw [IntKind.wrap_u64]; omega
 have NU := Qh (number_any q 4 hml (by decide) (by decide) w3)
 have H8 := Qh hl8
 clear OF hl8
 go_wp2_with (first
  | (go_at_call 154; refine NU.out.mono ?_; rintro e w5 ⟨g5, rfl, ho5, hb5⟩; have H5 := Qh (Qa ho5 (Qa (H3.out.1.below hb5) (H3.out.2.trans (hb5.mono H3.out.2.size)))); clear ho5 hb5)
  | (at_builtin; refine wpList_append_sl rfl (.tmp 16) (.tmp 20) _ rfl w.heap.size _ Tryz.underlying38 info_u8 _ b8 rfl H5.out.2.1 _ (some ⟨g5, 0, none⟩) 4 4 (be 4 q) rfl (own_sl H5.out.1 (be_byte 4 q)) (by have := H8.out; omega) H5.out.2.2.size ?_; intro v6 w6 ho6 hg6 hat6; have H6 := Qh (Qa ho6 (H5.out.2.2.grown hg6 H5.out.2.2.size (fun k hk => (H5.out.2.1.at_base hk).1))); clear ho6 hg6 hat6)
  | fail)
 go_ret
 exact ⟨_, rfl, by rw [HH.out]; exact H6.out.1, H6.out.2⟩
end
section
open Go.RowKit
open Crc Frm
theorem rread5_any (a : Option Addr) (len cap : Nat) (bs : List Nat) (w : World) (hs : Sl w w.heap.size a len cap bs) (h4 : len ≤ 4) :
 Calls Tryz.prog 106 #[.slice a len cap] w fun e w' => e = .returned (.int .u64 ((val bs : Nat) : Int)) ∧ w = w' := by
 have hbl := hs.length
 go_enter Tryz.func106, Tryz.ntmps106
 go_wp2_with fail
 go_loop [3, 4] (fun v i => ∃ k : Nat, k ≤ len ∧ i = .int .i64 (k : Int) ∧ v = .int .u64 ((val (bs.take k) : Nat) : Int)) (fun _ i => len - (intOf i).toNat)
 case atStart => exact ⟨0, by omega, rfl, rfl⟩
 case round =>
  obtain ⟨k, hk, rfl, rfl⟩ := hrel
  by_cases hlt : k < len
  · obtain ⟨b, o, rfl, hb, hc⟩ := hs.at_ (by omega)
    have c1 := hc k hlt
    have hcb := hs.lt hlt
    have hvl : val (bs.take k) < 16777216 := by
     have h1 := val_lt (bs.take k) (fun c hc => hs.byte c (List.mem_of_mem_take hc))
     have h2 : (bs.take k).length ≤ 3 := by rw [List.length_take]; omega
     have h3 := Nat.pow_le_pow_right (n := 256) (by decide) h2
     omega
    have Hst : Hid (val (bs.take (k + 1)) = val (bs.take k) * 256 + bs.getD k 0) := by
     show _ = _
     rw [List.take_succ_eq_append_getElem (by omega), val_snoc, List.getD_eq_getElem?_getD, List.getElem?_eq_getElem (by omega)]
     rfl
    generalize val (bs.take k) = v at hvl Hst
    generalize bs.getD k 0 = c at c1 hcb Hst
    clear hc
    go_wp2
    exact ⟨⟨k + 1, by omega, by go_num, by rw [Hst.out]; go_num⟩, by simp [intOf]; omega⟩
  have hk' : k = len := by omega
  subst hk'
  rw [List.take_of_length_le (by omega)]
  go_wp2
  go_ret
  exact ⟨rfl, rfl⟩
theorem number5_step (j k n : Nat) (hj : j < k) : (List.replicate (k - j) 0 ++ be j n).set (k - j - 1) (n / 256 ^ j % 256) = List.replicate (k - (j + 1)) 0 ++ be (j + 1) n := by
 obtain ⟨m, hm⟩ : ∃ m, k - j = m + 1 := ⟨k - j - 1, by omega⟩
 rw [hm, show k - (j + 1) = m from by omega, show m + 1 - 1 = m from by omega, List.replicate_succ', List.append_assoc, List.set_append_right _ _ (by simp)]
 simp [be]
theorem number5_any (n k : Nat) (hn : n < 4294967296) (hk4 : k ≤ 4) (h1 : 1 ≤ k) (w : World) :
 Calls Tryz.prog 154 #[.int .u64 (n : Int), .int .i64 (k : Int)] w fun e w' => ∃ g, e = .returned (.slice (some ⟨g, 0, none⟩) k k) ∧ OwnB w' w.heap.size 5 (.slice (some ⟨g, 0, none⟩) k k) (be k n) ∧ Below w.heap.size w w' := by
 obtain ⟨i8, hi8, hz0, hz1, hz2⟩ := info_parts info_u8
 go_enter Tryz.func154, Tryz.ntmps154
 go_wp2_with (at_make; refine wpList_make_full _ rfl (.tmp 7) (.tmp 7) 38 rfl w.heap.size 5 i8 (.int .u8 0) 1 Tryz.underlying38 hi8 hz0 hz1 .i64 .i64 _ _ k rfl rfl rfl rfl (by rw [hz2]; omega) (by unfold maxLen; omega) Qn ?_; intro w2 hown hg)
 have hown1 := OwnB.made hown
 have hB2 : Below w.heap.size w w2 := Qb.grown hg Qn (fun k hk => by cases hk)
 clear hown hg
 go_loopw [0, 6] (fun x i wx => ∃ j : Nat, j ≤ k ∧ x = .int .u64 ((n / 256 ^ j : Nat) : Int) ∧ i = .int .i64 ((k : Int) - 1 - (j : Int)) ∧ OwnB wx w.heap.size 5 (.slice (some ⟨w.heap.size, 0, none⟩) k k) (List.replicate (k - j) 0 ++ be j n) ∧ Below w.heap.size w wx)
  (fun _ i _ => (intOf i + 1).toNat)
 case atStart => exact ⟨0, by omega, by simp, by simp, by simpa [be] using hown1, hB2⟩
 case round =>
  obtain ⟨j, hj, rfl, rfl, ho, hB⟩ := hrel
  by_cases hlt : j < k
  · have hkc := ho.cell (k := k - 1 - j) (by simp [be_len]; omega)
    have hset := ho.set_ (k - j - 1) (n / 256 ^ j % 256)
    rw [number5_step j k n hlt] at hset
    have hle : n / 256 ^ j < 4294967296 := Nat.lt_of_le_of_lt (Nat.div_le_self _ _) hn
    have hdv : Hid (n / 256 ^ (j + 1) = n / 256 ^ j / 256) := by show _ = _; rw [Nat.pow_succ, Nat.div_div_eq_div_mul]
    have H := Qh (Qa hset hB)
    clear hset ho hB hown1 hB2
    generalize n / 256 ^ j = m at hle hdv H
    obtain ⟨q, hq⟩ : ∃ q, q = k - 1 - j := ⟨_, rfl⟩
    have hqi : (k : Int) - 1 - (j : Int) = (q : Int) := by omega
    rw [hqi]
    rw [← hq] at hkc
    rw [show k - j - 1 = q from by omega] at H
    have hq1 : (q : Int) < (k : Int) := by omega
    have HQ := Qh hq
    clear hqi hq
    go_wp2
    have hq := HQ.out
    have hm := H.out.1
    refine ⟨⟨j + 1, by omega, by rw [hdv.out]; go_num, by go_num, ?_, H.out.2.setCell (p := ⟨w.heap.size, q, none⟩) Qn _⟩, by first | (simp [intOf]; done) | (simp [intOf]; omega)⟩
    first | exact hm | (have e : Value.int .u8 ((m : Int) % 256) = bv (m % 256) := rfl; rw [e]; exact hm)
  have hjk : j = k := by omega
  subst hjk
  rw [show (j : Int) - 1 - (j : Int) = -1 from by omega]
  go_wp2
  go_ret
  exact ⟨_, rfl, by simpa using ho, hB⟩
end
section
open Go.RowKit Go.Sort
open Crc Frm
attribute [local go_sem] Oper.semAt_some
theorem rright5_any (l : List Int) (a : Option Addr) (n c : Nat) (w : World) (hr : Row w w.heap.size a n c 1 (intsC l)) (hn : l.length = n) :
 Calls Tryz.prog 155 #[.slice a n c] w fun e w' => e = .returned (.bool (mOk l)) ∧ Below w.heap.size w w' := by
 have hcm := hr.max
 have hle := hr.le
 unfold maxLen at hcm
 have HL : Hid (mOk l = (decide (1 ≤ n) && (decide (n ≤ 40) && upL (-1) l))) := by show _ = _; unfold mOk; rw [hn]
 have HR := Qh (Qa hr hn)
 clear hr hn
 go_enter Tryz.func155, Tryz.ntmps155
 go_wp2_with fail
 go_loopw [3] (fun i wr => ∃ (k : Nat) (z : Int), k ≤ n ∧ i = .int .i64 (k : Int) ∧ upL (-1) l = upL z (l.drop k) ∧ (k = 0 ∧ z = -1 ∨ 0 < k ∧ 0 ≤ z ∧ z = l.getD (k - 1) 0) ∧ Below w.heap.size w wr) (fun i _ => n - (intOf i).toNat)
 case atStart => exact ⟨0, -1, Nat.zero_le _, rfl, rfl, .inl ⟨rfl, rfl⟩, Below.refl _ _⟩
 case round =>
  obtain ⟨k, z, hk, rfl, hu, hz, hnx⟩ := hrel
  by_cases hlt : k < n
  · obtain ⟨b, o, rfl, hb, hc⟩ := HR.out.1.at_ (by omega)
    have c0 := (hnx.cell (p := ⟨b, o + k, none⟩) hb).trans (hc k (by omega))
    simp only [intsC] at c0
    have hlk : k < l.length := by have := HR.out.2; omega
    have hd : l.drop k = l.getD k 0 :: l.drop (k + 1) := by rw [List.drop_eq_getElem_cons hlk, List.getD_eq_getElem?_getD, List.getElem?_eq_getElem hlk]; rfl
    rw [hd] at hu
    have hprev := Qh (fun (q : Nat) (hq : k = q + 1) => show wr.cell? ⟨b, o + q, none⟩ = some (.int .i64 (l.getD q 0)) by
     exact (hnx.cell (p := ⟨b, o + q, none⟩) hb).trans (hc q (by omega)))
    have hxk := Qh (show l.getD (k + 1 - 1) 0 = l.getD k 0 by rw [Nat.add_sub_cancel])
    obtain ⟨x, hx⟩ : ∃ x, x = l.getD k 0 := ⟨_, rfl⟩
    rw [← hx] at hu c0 hxk
    have HU := Qh hu
    have HX := Qh hnx
    clear hu hd hc hlk hnx hx
    by_cases h1 : x < 0
    · have hno := Qh (show ¬ (z < x ∧ x ≤ 1073741824) by rcases hz with ⟨_, h⟩ | ⟨_, h, _⟩ <;> omega)
      clear hz
      go_wp2_with fail
      refine wp_region_held_drew (S := fun x' => x'.cell? ⟨b, o + k, none⟩ = some (.int .i64 x)) (by kernel_rfl) c0 (fun hHeld => ?_)
      refine qi 0 (by assumption) ?_
      iterate 6 (refine qk rfl (by kernel_rfl) (fun _ _ _ h => h) (by intro w hSw; (try dsimp only at hSw); go_simp; all_goals with_reducible rfl) (by (try simp only [Act.put, lz]); rfl) ?_)
      refine qo (qi 6 (by assumption) ?_)
      iterate 5 (refine qu rfl (by kernel_rfl) (fun _ _ _ h => h) (by (try simp only [Act.put, lz]); rfl) ?_)
      refine qo (qi 11 (by assumption) ?_)
      iterate 2 (refine qk rfl (by kernel_rfl) (fun _ _ _ h => h) (by intro w hSw; (try dsimp only at hSw); go_simp; all_goals with_reducible rfl) (by (try simp only [Act.put, lz]); rfl) ?_)
      refine qo (qi 13 (by assumption) ?_)
      iterate 14 (refine qu rfl (by kernel_rfl) (fun _ _ _ h => h) (by (try simp only [Act.put, lz]); rfl) ?_)
      refine qo (qi 27 (by assumption) ?_)
      refine qk rfl (by kernel_rfl) (fun _ _ _ h => h) (by intro w hSw; (try dsimp only at hSw); go_simp; all_goals with_reducible rfl) (by (try simp only [Act.put, lz]); rfl) ?_
      refine qo ?_
      refine wpAnyH_done (by kernel_rfl) ?_ _
      clear hHeld
      go_wp2
      go_ret
      exact ⟨ret_bool (by rw [HL.out, HU.out, upL_no hno.out]; simp), Below.drew HX.out⟩
    have d1 : decide (x < 0) = false := by simp; omega
    by_cases h2 : 1073741824 < x
    · have hno := Qh (show ¬ (z < x ∧ x ≤ 1073741824) by omega)
      clear hz
      go_wp2_with fail
      refine wp_region_held_drew (S := fun x' => x'.cell? ⟨b, o + k, none⟩ = some (.int .i64 x)) (by kernel_rfl) c0 (fun hHeld => ?_)
      refine qi 0 (by assumption) ?_
      iterate 13 (refine qk rfl (by kernel_rfl) (fun _ _ _ h => h) (by intro w hSw; (try dsimp only at hSw); go_simp; all_goals with_reducible rfl) (by (try simp only [Act.put, lz]); rfl) ?_)
      refine qo (qi 13 (by assumption) ?_)
      iterate 14 (refine qu rfl (by kernel_rfl) (fun _ _ _ h => h) (by (try simp only [Act.put, lz]); rfl) ?_)
      refine qo (qi 27 (by assumption) ?_)
      refine qk rfl (by kernel_rfl) (fun _ _ _ h => h) (by intro w hSw; (try dsimp only at hSw); go_simp; all_goals with_reducible rfl) (by (try simp only [Act.put, lz]); rfl) ?_
      refine qo ?_
      refine wpAnyH_done (by kernel_rfl) ?_ _
      clear hHeld
      go_wp2
      go_ret
      exact ⟨ret_bool (by rw [HL.out, HU.out, upL_no hno.out]; simp), Below.drew HX.out⟩
    have d2 : decide (1073741824 < x) = false := by simp; omega
    by_cases h3 : k = 0
    · have hzz : z = -1 := by rcases hz with ⟨_, h⟩ | ⟨h, _⟩ <;> omega
      subst hzz
      have hst := Qh (upL_yes (l := l.drop (k + 1)) (show (-1 : Int) < x by omega) (show x ≤ 1073741824 by omega))
      have HK := Qh h3
      clear hz
      have g0 : ¬ (0 : Int) < (k : Int) := by omega
      have d3 : decide ((0 : Int) < (k : Int)) = false := by simp; omega
      have d4 : decide (0 < k) = false := by simp; omega
      clear h3
      go_wp2_with fail
      refine wp_region_held_drew (S := fun x' => x'.cell? ⟨b, o + k, none⟩ = some (.int .i64 x)) (by kernel_rfl) c0 (fun hHeld => ?_)
      refine qi 0 (by assumption) ?_
      iterate 16 (refine qk rfl (by kernel_rfl) (fun _ _ _ h => h) (by intro w hSw; (try dsimp only at hSw); go_simp; all_goals with_reducible rfl) (by (try simp only [Act.put, lz]); rfl) ?_)
      refine qo (qi 16 (by assumption) ?_)
      iterate 10 (refine qu rfl (by kernel_rfl) (fun _ _ _ h => h) (by (try simp only [Act.put, lz]); rfl) ?_)
      refine qo (qi 26 (by assumption) ?_)
      iterate 2 (refine qk rfl (by kernel_rfl) (fun _ _ _ h => h) (by intro w hSw; (try dsimp only at hSw); go_simp; all_goals with_reducible rfl) (by (try simp only [Act.put, lz]); rfl) ?_)
      refine qo ?_
      refine wpAnyH_done (by kernel_rfl) ?_ _
      clear hHeld
      go_wp2
      go_roundw
      case rel => exact ⟨k + 1, x, by omega, by go_num, HU.out.trans hst.out, .inr ⟨by omega, by omega, hxk.out.symm⟩, Below.drew HX.out⟩
      case measure => simp [intOf]; omega
    obtain ⟨q, hq⟩ : ∃ q, k = q + 1 := ⟨k - 1, by omega⟩
    have c1 := hprev.out q hq
    have hzq : z = l.getD q 0 := by
     rcases hz with ⟨h, _⟩ | ⟨_, _, h⟩
     · omega
     rw [h, hq, Nat.add_sub_cancel]
    rw [← hzq] at c1
    have hz0 : 0 ≤ z := by rcases hz with ⟨h, _⟩ | ⟨_, h, _⟩ <;> omega
    have hw : IntKind.i64.wrap ((k : Int) - 1) = (q : Int) := by rw [IntKind.wrap_i64]; omega
    have g0 : (0 : Int) < (k : Int) := by omega
    have d3 : decide ((0 : Int) < (k : Int)) = true := by simp; omega
    have d4 : decide (0 < k) = true := by simp; omega
    have g1 : q < n := by omega
    have g2 : (q : Int) < (n : Int) := by omega
    clear hz hzq hq h3 hprev
    by_cases h4 : x ≤ z
    · have hno := Qh (show ¬ (z < x ∧ x ≤ 1073741824) by omega)
      go_wp2_with fail
      refine wp_region_held_drew (S := fun x' => x'.cell? ⟨b, o + k, none⟩ = some (.int .i64 x) ∧ x'.cell? ⟨b, o + q, none⟩ = some (.int .i64 z)) (by kernel_rfl) ⟨c0, c1⟩ (fun hHeld => ?_)
      refine qi 0 (by assumption) ?_
      iterate 28 (refine qk rfl (by kernel_rfl) (fun _ _ _ h => h) (by intro w hSw; (try dsimp only at hSw); go_simp; all_goals with_reducible rfl) (by (try simp only [Act.put, lz]); rfl) ?_)
      refine qo ?_
      refine wpAnyH_done (by kernel_rfl) ?_ _
      clear hHeld
      go_wp2
      go_ret
      exact ⟨ret_bool (by rw [HL.out, HU.out, upL_no hno.out]; simp), Below.drew HX.out⟩
    have d5 : decide (x ≤ z) = false := by simp; omega
    have hst := Qh (upL_yes (l := l.drop (k + 1)) (show z < x by omega) (show x ≤ 1073741824 by omega))
    go_wp2_with fail
    refine wp_region_held_drew (S := fun x' => x'.cell? ⟨b, o + k, none⟩ = some (.int .i64 x) ∧ x'.cell? ⟨b, o + q, none⟩ = some (.int .i64 z)) (by kernel_rfl) ⟨c0, c1⟩ (fun hHeld => ?_)
    refine qi 0 (by assumption) ?_
    iterate 28 (refine qk rfl (by kernel_rfl) (fun _ _ _ h => h) (by intro w hSw; (try dsimp only at hSw); go_simp; all_goals with_reducible rfl) (by (try simp only [Act.put, lz]); rfl) ?_)
    refine qo ?_
    refine wpAnyH_done (by kernel_rfl) ?_ _
    clear hHeld
    go_wp2
    go_roundw
    case rel => exact ⟨k + 1, x, by omega, by go_num, HU.out.trans hst.out, .inr ⟨by omega, by omega, hxk.out.symm⟩, Below.drew HX.out⟩
    case measure => simp [intOf]; omega
  have hall := Qh (show upL (-1) l = true by rw [hu, List.drop_of_length_le (by have := HR.out.2; omega)]; rfl)
  have HX := Qh hnx
  clear hu hz hnx
  by_cases h1 : 1 ≤ n
  · by_cases h2 : n ≤ 40
    · go_wp2
      go_ret
      exact ⟨ret_bool (by rw [HL.out, hall.out]; simp [h1, h2] <;> omega), HX.out⟩
    go_wp2
    go_ret
    exact ⟨ret_bool (by rw [HL.out, hall.out]; simp [h2] <;> omega), HX.out⟩
  go_wp2
  go_ret
  exact ⟨ret_bool (by rw [HL.out, hall.out]; simp [h1] <;> omega), HX.out⟩
end
section
open Go.RowKit Go.Sort
open Crc Frm
attribute [local go_sem] Oper.semAt_some
theorem own_four {w : World} {base : Nat} {e : TypeId} {g : Nat} {bs : List Nat} (h : OwnB w base e (.slice (some ⟨g, 0, none⟩) 4 4) bs) (hb : ∀ c ∈ bs, c < 256) (hl : bs.length = 4) : Sl w w.heap.size (some ⟨g, 0, none⟩) 4 4 bs := by
 obtain ⟨a, c, hv, hs⟩ := h.sl hb
 rw [hl] at hv hs
 injection hv with h1 h2 h3
 subst h1 h3
 exact hs
theorem rput5_any (l : List Int) (a : Option Addr) (n c : Nat) (w : World) (hr : Row w w.heap.size a n c 1 (intsC l)) (hn : l.length = n) :
 Calls Tryz.prog 156 #[.slice a n c] w fun e w' => ∃ v, e = .returned v ∧ OwnB w' w.heap.size 5 v (mPut l) ∧ Below w.heap.size w w' := by
 have R := Qh (rright5_any l a n c w hr hn)
 by_cases hok : mOk l = true
 · have hall := mOk_all hok
   rw [hok] at R
   have hp : Hid (mPut l = mRaw l) := by show _ = _; unfold mPut; rw [if_pos hok]
   have n1 : 1 ≤ n := by omega
   have n2 : n ≤ 40 := by omega
   have u0 : (n : Int) % 256 = (n : Int) := by omega
   have u1 : IntKind.u8.wrap (n : Int) = (n : Int) := by rw [IntKind.wrap_u8]; omega
   have HR := Qh (Qa hr (Qa hn hall.2.2))
   clear hr hn hall
   go_enter Tryz.func156, Tryz.ntmps156
   go_wp2_with fail
   refine R.out.mono ?_
   rintro e w1 ⟨rfl, hb1⟩
   have hown1 : OwnB (w1.alloc (.cells #[.int .u8 (n : Int)] 5)) w.heap.size 5 (.slice (some ⟨w1.heap.size, 0, none⟩) 1 1) [n] := OwnB.lit (w := w1) 5 [n] hb1.size (by simp [maxLen])
   have H1 := Qh (Qa hown1 (hb1.alloc hb1.size (.cells #[.int .u8 (n : Int)] 5)))
   clear hown1 hb1 R
   go_wp2_with fail
   go_loopw [3, 4] (fun u i wx => ∃ k : Nat, k ≤ n ∧ i = .int .i64 (k : Int) ∧ OwnB wx w.heap.size 5 u (n :: mNums (l.take k)) ∧ Below w.heap.size w wx) (fun _ i _ => n - (intOf i).toNat)
   case atStart => exact ⟨0, Nat.zero_le _, rfl, H1.out.1, H1.out.2⟩
   case round =>
    obtain ⟨k, hk, rfl, ho, hb⟩ := hrel
    by_cases hlt : k < n
    · obtain ⟨b, o, rfl, hbl, hc⟩ := HR.out.1.at_ (by omega)
      have c0 := (hb.cell (p := ⟨b, o + k, none⟩) hbl).trans (hc k (by omega))
      simp only [intsC, Nat.mul_one] at c0
      have hlk : k < l.length := by have := HR.out.2.1; omega
      have hmem : l.getD k 0 ∈ l := by rw [List.getD_eq_getElem?_getD, List.getElem?_eq_getElem hlk]; exact List.getElem_mem _
      have hx := HR.out.2.2 _ hmem
      have htk : l.take (k + 1) = l.take k ++ [l.getD k 0] := by rw [List.take_succ_eq_append_getElem hlk, List.getD_eq_getElem?_getD, List.getElem?_eq_getElem hlk]; rfl
      have Hnx : Hid (n :: mNums (l.take (k + 1)) = (n :: mNums (l.take k)) ++ be 4 (l.getD k 0).toNat) := by show _ = _; rw [htk, mNums_snoc]; rfl
      generalize l.getD k 0 = x at *
      obtain ⟨y, rfl⟩ := Int.eq_ofNat_of_zero_le hx.1
      have w1' : IntKind.u64.wrap ((y : Nat) : Int) = (y : Int) := by rw [IntKind.wrap_u64]; omega
      have hlen : (n :: mNums (l.take k)).length ≤ 1000000 := by have h1 := mNums_len (l.take k); have h2 := List.length_take_le k l; simp only [List.length_cons]; omega
      have NU := Qh (number5_any y 4 (by omega) (by decide) (by decide) wr)
      have e3 : ((y : Nat) : Int).toNat = y := rfl
      rw [e3] at Hnx
      have hbe4 := be_byte 4 y
      have hbl4 := be_len 4 y
      generalize be 4 y = b4 at NU Hnx hbe4 hbl4
      have HB := Qh (Qa hb ho)
      generalize n :: mNums (l.take k) = ns at *
      clear hc hb hmem htk ho hx H1
      go_wp2_with fail
      refine NU.out.mono ?_
      rintro e w4 ⟨g4, rfl, ho4, hb4⟩
      have hs4 := own_four ho4 hbe4 hbl4
      have hb4' := HB.out.1.trans (hb4.mono HB.out.1.size)
      have ho3 := HB.out.2.below hb4
      clear ho4 hb4 NU HB c0
      go_wp2_with (first
       | (at_builtin; refine wpList_append_sl rfl (.tmp 18) (.tmp 24) 38 rfl w.heap.size _ Tryz.underlying38 info_u8 _ ns rfl ho3 _ (some ⟨g4, 0, none⟩) 4 4 b4 rfl hs4 (by omega) (by have := hb4'.size; omega) ?_; intro v5 w5 ho5 hg5 hat5; have hB5 : Below w.heap.size w w5 := hb4'.grown hg5 hb4'.size (fun k hk => (ho3.at_base hk).1); have H5 := Qh (Qa ho5 hB5); clear ho5 hB5 hg5 hat5 ho3 hb4' hs4)
       | fail)
      go_roundw
      case rel => exact ⟨k + 1, by omega, by go_num, by rw [Hnx.out]; exact H5.out.1, H5.out.2⟩
      case measure => simp [intOf]; omega
    have hkn : k = n := by omega
    subst hkn
    have hms : k :: mNums (l.take k) = mSum l := by rw [List.take_of_length_le (by have := HR.out.2.1; omega)]; unfold mSum; rw [HR.out.2.1]
    rw [hms] at ho
    have hbb : ∀ c ∈ mSum l, c < 256 := by
     intro c hc
     rcases List.mem_cons.1 hc with rfl | h
     · have := HR.out.2.1; omega
     exact mNums_byte l c h
    have hsl : (mSum l).length ≤ 1000000 := by have h1 := mNums_len l; have h2 := HR.out.2.1; unfold mSum; simp only [List.length_cons]; omega
    obtain ⟨a5, cap5, rfl, hs5⟩ := ho.sl hbb
    have hml := more_lt 0 (mSum l)
    have Hraw : Hid (mPut l = mSum l ++ be 4 (more 0 (mSum l))) := by show _ = _; rw [hp.out]; rfl
    generalize mSum l = ms at *
    generalize hml0 : more 0 ms = m at *
    have HM := Qh hml0
    have OF := Qh (rof_any a5 ms.length cap5 ms wr hs5)
    have hw6 : IntKind.u64.wrap ((m : Nat) : Int) = (m : Int) := by rw [IntKind.wrap_u64]; omega
    have H5 := Qh (Qa ho hb)
    have NU := Qh (number5_any m 4 (by omega) (by decide) (by decide) wr)
    have hbe4 := be_byte 4 m
    have hbl4 := be_len 4 m
    generalize be 4 m = b4 at NU Hraw hbe4 hbl4
    clear ho hb hs5 hbb hms hml0 H1
    go_wp2_with fail
    refine OF.out.mono ?_
    rintro e w6 ⟨rfl, rfl⟩
    rw [HM.out]
    go_wp2_with fail
    refine NU.out.mono ?_
    rintro e w4 ⟨g4, rfl, ho4, hb4⟩
    have hs4 := own_four ho4 hbe4 hbl4
    have hb4' := H5.out.2.trans (hb4.mono H5.out.2.size)
    have ho3 := H5.out.1.below hb4
    clear ho4 hb4 NU OF H5
    go_wp2_with (first
     | (at_builtin; refine wpList_append_sl rfl (.tmp 26) (.tmp 30) 38 rfl w.heap.size _ Tryz.underlying38 info_u8 _ ms rfl ho3 _ (some ⟨g4, 0, none⟩) 4 4 b4 rfl hs4 (by omega) (by have := hb4'.size; omega) ?_; intro v5 w5 ho5 hg5 hat5; have hB5 : Below w.heap.size w w5 := hb4'.grown hg5 hb4'.size (fun k hk => (ho3.at_base hk).1); have H5 := Qh (Qa ho5 hB5); clear ho5 hB5 hg5 hat5 ho3 hb4' hs4)
     | fail)
    go_ret
    exact ⟨_, rfl, by rw [Hraw.out]; exact H5.out.1, H5.out.2⟩
 have hno : mOk l = false := by simpa using hok
 rw [hno] at R
 have hp : Hid (mPut l = []) := by show _ = _; unfold mPut; rw [if_neg hok]
 go_enter Tryz.func156, Tryz.ntmps156
 go_wp2_with fail
 refine R.out.mono ?_
 rintro e w1 ⟨rfl, hb1⟩
 have HB := Qh hb1
 clear hb1
 go_wp2
 go_ret
 exact ⟨_, rfl, by rw [hp.out]; exact OwnB.nil_ _ _ _, HB.out⟩
end
section
open Go.RowKit Go.Sort
attribute [local go_sem] Oper.semAt_some
theorem rsame_any (l1 l2 : List Int) (a1 a2 : Option Addr) (n1 n2 c1 c2 : Nat) (w : World) (h1 : Row w w.heap.size a1 n1 c1 1 (intsC l1)) (h2 : Row w w.heap.size a2 n2 c2 1 (intsC l2)) (e1 : l1.length = n1) (e2 : l2.length = n2) :
 Calls Tryz.prog 19 #[.slice a1 n1 c1, .slice a2 n2 c2] w fun e w' => e = .returned (.bool (decide (l1 = l2))) ∧ Below w.heap.size w w' := by
 have m1 := h1.le
 have m2 := h1.max
 unfold maxLen at m2
 have HH := Qh (Qa h1 h2)
 have HN := Qh (Qa e1 e2)
 clear h1 h2 e1 e2
 by_cases hn : n1 = n2
 · subst hn
   go_enter Tryz.func19, Tryz.ntmps19
   go_wp2_with fail
   go_loopw [5] (fun i wr => ∃ k : Nat, k ≤ n1 ∧ i = .int .i64 (k : Int) ∧ l1.take k = l2.take k ∧ Below w.heap.size w wr) (fun i _ => n1 - (intOf i).toNat)
   case atStart => exact ⟨0, Nat.zero_le _, rfl, by simp, Below.refl _ _⟩
   case round =>
    obtain ⟨k, hk, rfl, htk, hnx⟩ := hrel
    by_cases hlt : k < n1
    · obtain ⟨b1, o1, rfl, hb1, hc1⟩ := HH.out.1.at_ (by omega)
      obtain ⟨b2, o2, rfl, hb2, hc2⟩ := HH.out.2.at_ (by omega)
      have e1 := (hnx.cell (p := ⟨b1, o1 + k, none⟩) hb1).trans (hc1 k (by omega))
      have e2 := (hnx.cell (p := ⟨b2, o2 + k, none⟩) hb2).trans (hc2 k (by omega))
      have hk1 : k < l1.length := by have := HN.out.1; omega
      have hk2 : k < l2.length := by have := HN.out.2; omega
      have hg1 : l1.getD k 0 = l1[k] := by rw [List.getD_eq_getElem?_getD, List.getElem?_eq_getElem hk1]; rfl
      have hg2 : l2.getD k 0 = l2[k] := by rw [List.getD_eq_getElem?_getD, List.getElem?_eq_getElem hk2]; rfl
      have hst := Qh (fun (h : l1.getD k 0 = l2.getD k 0) => show l1.take (k + 1) = l2.take (k + 1) by
       rw [List.take_succ_eq_append_getElem hk1, List.take_succ_eq_append_getElem hk2, htk, ← hg1, ← hg2, h])
      have hno := Qh (fun (h : ¬ l1.getD k 0 = l2.getD k 0) => show decide (l1 = l2) = false by
       apply decide_eq_false
       intro h3
       exact h (by rw [h3]))
      simp only [intsC] at e1 e2
      generalize l1.getD k 0 = x at *
      generalize l2.getD k 0 = y at *
      have HX := Qh hnx
      clear hnx hc1 hc2 htk hg1 hg2 hk1 hk2
      by_cases hxy : x = y
      · subst hxy
        go_wp2_with fail
        refine wp_region_held_drew (S := fun x' => x'.cell? ⟨b1, o1 + k, none⟩ = some (.int .i64 x) ∧ x'.cell? ⟨b2, o2 + k, none⟩ = some (.int .i64 x)) (by kernel_rfl) ⟨e1, e2⟩ (fun hHeld => ?_)
        refine qi 0 (by assumption) ?_
        iterate 9 (refine qk rfl (by kernel_rfl) (fun _ _ _ h => h) (by intro w hSw; (try dsimp only at hSw); go_simp; all_goals with_reducible rfl) (by (try simp only [Act.put, lz]); rfl) ?_)
        refine qo ?_
        refine wpAnyH_done (by kernel_rfl) ?_ _
        clear hHeld
        go_wp2
        go_roundw
        case rel => exact ⟨k + 1, by omega, by go_num, hst.out (by trivial), Below.drew HX.out⟩
        case measure => simp [intOf]; omega
      have q1 : (x != y) = true := by simp [hxy]
      have q2 : (x == y) = false := by simp [hxy]
      go_wp2_with fail
      refine wp_region_held_drew (S := fun x' => x'.cell? ⟨b1, o1 + k, none⟩ = some (.int .i64 x) ∧ x'.cell? ⟨b2, o2 + k, none⟩ = some (.int .i64 y)) (by kernel_rfl) ⟨e1, e2⟩ (fun hHeld => ?_)
      refine qi 0 (by assumption) ?_
      iterate 9 (refine qk rfl (by kernel_rfl) (fun _ _ _ h => h) (by intro w hSw; (try dsimp only at hSw); go_simp; all_goals with_reducible rfl) (by (try simp only [Act.put, lz]); rfl) ?_)
      refine qo ?_
      refine wpAnyH_done (by kernel_rfl) ?_ _
      clear hHeld
      go_wp2
      go_ret
      exact ⟨ret_bool (hno.out hxy).symm, Below.drew HX.out⟩
    have HX := Qh hnx
    have hall := Qh (show decide (l1 = l2) = true by
     apply decide_eq_true
     have h1 := HN.out.1
     have h2 := HN.out.2
     rw [List.take_of_length_le (by omega), List.take_of_length_le (by omega)] at htk
     exact htk)
    clear hnx htk
    go_wp2
    go_ret
    exact ⟨ret_bool hall.out.symm, HX.out⟩
 have hno := Qh (show decide (l1 = l2) = false by
  apply decide_eq_false
  intro h3
  subst h3
  exact hn (HN.out.1.symm.trans HN.out.2))
 have q1 : ¬ (n1 : Int) = (n2 : Int) := by omega
 have q2 : ((n1 : Int) == (n2 : Int)) = false := by simp; omega
 go_enter Tryz.func19, Tryz.ntmps19
 go_wp2
 go_ret
 exact ⟨ret_bool hno.out.symm, Below.refl _ _⟩
end
section
open Go.RowKit Go.Sort
open Go.Maps
open Crc Frm
attribute [local go_sem] Oper.semAt_some
theorem OwnV.out {w : World} {base : Nat} {e : TypeId} {v : Value} {l : List Int} (h : OwnV w base e v (i64V l)) :
 ∃ a c, v = .slice a l.length c ∧ Row w w.heap.size a l.length c 1 (intsC l) ∧ ∀ k o, a = some ⟨k, o, none⟩ → base ≤ k := by
 have h0 := h
 rcases h.2 with ⟨h1, h2⟩ | ⟨g, cap, cur, h1, h2, h3, h4, h5, h6⟩
 · subst h1
   have hl : l = [] := by simpa using h2
   subst hl
   exact ⟨none, 0, rfl, ⟨Nat.le_refl _, by simp [maxLen], fun hn => absurd hn (by simp)⟩, fun k o hk => by cases hk⟩
 subst h1
 have hn := h0.len
 rw [List.length_map] at hn
 have R := row_own h0
 have hm : (i64V l).length = l.length := List.length_map _
 rw [hm] at R
 refine ⟨_, cap, by rw [hm], R, fun k o hk => ?_⟩
 injection hk with hk
 injection hk with hk
 rw [← hk]
 exact h0.base_.1
def Far (O : Nat → Prop) (a : Option Addr) (n : Nat) : Prop := 0 < n → ∀ k o, a = some ⟨k, o, none⟩ → ¬ O k
theorem Sl.mv {O O' : Nat → Prop} {w w' : World} {a : Option Addr} {n c : Nat} {bs : List Nat} (h : Sl w w.heap.size a n c bs ∧ Far O a n) (hb : But O w w') (hO : ∀ k, k < w.heap.size → ¬ O k → ¬ O' k) : Sl w' w'.heap.size a n c bs ∧ Far O' a n := by
 refine ⟨h.1.but hb h.2, fun hn k o hk => ?_⟩
 obtain ⟨b', o', e', hlt, _⟩ := h.1.at_ hn
 rw [hk] at e'
 injection e' with e'
 injection e' with e1
 exact hO k (by omega) (h.2 hn k o hk)
theorem Row.mv {O O' : Nat → Prop} {w w' : World} {a : Option Addr} {n c m : Nat} {cs : Nat → Value} (h : Row w w.heap.size a n c m cs ∧ Far O a n) (hb : But O w w') (hO : ∀ k, k < w.heap.size → ¬ O k → ¬ O' k) : Row w' w'.heap.size a n c m cs ∧ Far O' a n := by
 refine ⟨h.1.but hb h.2, fun hn k o hk => ?_⟩
 obtain ⟨b', o', e', hlt, _⟩ := h.1.at_ hn
 rw [hk] at e'
 injection e' with e'
 injection e' with e1
 exact hO k (by omega) (h.2 hn k o hk)
theorem lit_row (w : World) (l : List Int) (hm : l.length ≤ maxLen) : Row (w.alloc (.cells ((l.map fun x => Value.int .i64 x).toArray) 2)) (w.alloc (.cells ((l.map fun x => Value.int .i64 x).toArray) 2)).heap.size (some ⟨w.heap.size, 0, none⟩) l.length l.length 1 (intsC l) :=
 Row.new (heap_alloc_new w _) (fun j hj => by
  have hj' : j < l.length := by omega
  rw [List.getElem?_toArray, List.getElem?_map, List.getElem?_eq_getElem hj']
  simp only [intsC, List.getD_eq_getElem?_getD, List.getElem?_eq_getElem hj']
  rfl) hm
end
section
open Go.RowKit Go.Sort
open Crc Frm
attribute [local go_sem] Oper.semAt_some
theorem OwnV.keptV {w w' : World} {base : Nat} {e : TypeId} {v : Value} {us : List Value} (h : OwnV w base e v us) (hg : w.grownBy w' none) : OwnV w' base e v us := by
 rcases h.2 with ⟨h1, h2⟩ | ⟨g, cap, cur, rfl, _⟩
 · exact ⟨h.1, .inl ⟨h1, h2⟩⟩
 exact h.kept hg (by simp)
theorem mList_len (bs : List Nat) : (mList bs).length = bs.getD 0 0 := by simp [mList]
theorem mList_snoc (bs : List Nat) (j : Nat) (hj : j < bs.getD 0 0) : (mList bs).take (j + 1) = (mList bs).take j ++ [mNum bs j] := by
 rw [List.take_succ_eq_append_getElem (by rw [mList_len]; exact hj)]
 simp [mList]
theorem rget5_any (a : Option Addr) (len cap : Nat) (bs : List Nat) (w : World) (hs : Sl w w.heap.size a len cap bs) (hl : len ≤ 2000000) :
 Calls Tryz.prog 153 #[.slice a len cap] w fun e w' => ∃ v, e = .returned (.tuple #[v, .int .i64 (((mGet bs).2 : Nat) : Int)]) ∧ OwnV w' w.heap.size 2 v (i64V (mGet bs).1) ∧ Below w.heap.size w w' := by
 have hlen := hs.length
 have hcap := hs.le
 by_cases h0 : len = 0
 · subst h0
   have hg : mGet bs = ([], 12) := by unfold mGet; rw [if_pos (.inl hlen)]
   rw [hg]
   clear hs hlen hg
   go_enter Tryz.func153, Tryz.ntmps153
   go_wp2
   go_ret2
   exact ⟨_, rfl, OwnV.nil_ _ _ _, Below.refl _ _⟩
 obtain ⟨b, o, rfl, hb, hc⟩ := hs.at_ (by omega)
 have c0 : w.cell? ⟨b, o, none⟩ = some (.int .u8 ((bs.getD 0 0 : Nat) : Int)) := hc 0 (by omega)
 have l0 : bs.getD 0 0 < 256 := by rw [List.getD_eq_getElem?_getD, List.getElem?_eq_getElem (by omega)]; exact hs.byte _ (List.getElem_mem _)
 have n0 : 0 < len := by omega
 have z0 : ((len : Int) == 0) = false := by simp; omega
 have z1 : ¬ ((len : Int) = 0) := by omega
 have HG : Hid (mGet bs = if len = 0 ∨ len ≠ 5 + 4 * bs.getD 0 0 then ([], 12) else if val (bs.drop (len - 4)) ≠ more 0 (bs.take (len - 4)) then ([], 14) else if mOk (mList bs) = true then (mList bs, 0) else ([], 12)) := by show _ = _; unfold mGet; rw [hlen]
 have HLn := Qh (mList_len bs)
 have HSn := Qh (mList_snoc bs)
 have HS := Qh hs
 generalize bs.getD 0 0 = b0 at *
 have w0 : IntKind.i64.wrap (b0 : Int) = (b0 : Int) := by rw [IntKind.wrap_i64]; omega
 obtain ⟨q, hq⟩ : ∃ q, q = 5 + 4 * b0 := ⟨_, rfl⟩
 have w1 : IntKind.i64.wrap (4 * (b0 : Int)) = 4 * (b0 : Int) := by rw [IntKind.wrap_i64]; omega
 have w2 : IntKind.i64.wrap (5 + 4 * (b0 : Int)) = (q : Int) := by rw [IntKind.wrap_i64]; omega
 have Hq := Qh hq
 clear hs hc hlen
 by_cases hlq : len = q
 · subst hlq
   have Hlq := Qh hq
   clear hq
   obtain ⟨m, hm⟩ : ∃ m, m = len - 4 := ⟨_, rfl⟩
   have s4 : IntKind.i64.wrap ((len : Int) - 4) = (m : Int) := by have := Hlq.out; rw [IntKind.wrap_i64]; omega
   obtain ⟨a4, ha4⟩ : ∃ a4, a4 = fromA (some ⟨b, o, none⟩) cap m := ⟨_, rfl⟩
   have kcut : ∀ x, (Instr.slice 38 (.slice (some ⟨b, o, none⟩) len cap) none (some (.int .i64 (m : Int))) none).run Tryz.prog x = .ok (.slice (some ⟨b, o, none⟩) m cap) x := run_cut_to (P := Tryz.prog) 38 5 Tryz.underlying38 info_u8 _ len cap m (by omega)
   obtain ⟨c4, hc4⟩ : ∃ c4, c4 = cap - m := ⟨_, rfl⟩
   have hm4 : m + 4 = len := by have := Hlq.out; omega
   have kfrom : ∀ x, (Instr.slice 38 (.slice (some ⟨b, o, none⟩) len cap) (some (.int .i64 (m : Int))) none none).run Tryz.prog x = .ok (.slice a4 4 c4) x := fun x => by
    have := run_cut_from (P := Tryz.prog) 38 5 Tryz.underlying38 info_u8 (some ⟨b, o, none⟩) len cap m (by omega) x
    rw [this, ha4, hc4, show len - m = 4 from by omega]
    rfl
   have S4 : Sl w w.heap.size a4 4 c4 (bs.drop m) := by
    have := HS.out.from_ (k := m) (by omega)
    rw [← ha4, ← hc4, show len - m = 4 from by omega] at this
    exact this
   have SM : Sl w w.heap.size (some ⟨b, o, none⟩) m cap (bs.take m) := HS.out.take (by omega)
   have RD := Qh (fun (x : World) (hx : Below w.heap.size w x) => rread5_any a4 4 c4 (bs.drop m) x ((S4.below hx Qn).more hx.size) Qn)
   have OF := Qh (fun (x : World) (hx : Below w.heap.size w x) => rof_any (some ⟨b, o, none⟩) m cap (bs.take m) x ((SM.below hx Qn).more hx.size))
   rw [← hm] at HG
   have hv4 : val (bs.drop m) < 4294967296 := by
    have := val_lt (bs.drop m) S4.byte
    rw [S4.length] at this
    simpa using this
   have hmo := more_lt 0 (bs.take m)
   generalize val (bs.drop m) = x4 at *
   generalize more 0 (bs.take m) = y4 at *
   have hwy : IntKind.u64.wrap (y4 : Int) = (y4 : Int) := by rw [IntKind.wrap_u64]; omega
   have Hm := Qh (show m = 1 + 4 * b0 by have := Hlq.out; omega)
   clear S4 SM ha4 hc4 hm
   by_cases hxy : x4 = y4
   · subst hxy
     have hg : Hid (mGet bs = if mOk (mList bs) = true then (mList bs, 0) else ([], 12)) := by
      show _ = _
      rw [HG.out, if_neg (by have := Hlq.out; omega), if_neg (by simp)]
     clear HG hv4 hmo
     go_enter Tryz.func153, Tryz.ntmps153
     go_upto_region 4 with fail
     refine wp_region_held_drew (S := fun x => Below w.heap.size w x) (by kernel_rfl) (Below.drew Qb) (fun hHeld => ?_)
     refine qi 0 (by assumption) ?_
     iterate 3 (refine qk rfl (by kernel_rfl) (fun _ _ _ h => h) (by intro w hSw; (try dsimp only at hSw); go_simp; all_goals with_reducible rfl) (by (try simp only [Act.put, lz]); rfl) ?_)
     refine qo ?_
     refine take_first (i := 3) rfl (by kernel_rfl) (by kernel_rfl) (by kernel_rfl) (fun _ _ _ h => h) (GivesIf.call (by rfl) (fun w => ?_) (fun w hS => RD.out w hS)) (by assumption) ?_
     · go_simp
       all_goals with_reducible rfl
     try simp only [Act.put, lz]
     refine qi 4 (by assumption) ?_
     iterate 3 (refine qk rfl (by kernel_rfl) (fun _ _ _ h => h) (by intro w hSw; (try dsimp only at hSw); go_simp; all_goals with_reducible rfl) (by (try simp only [Act.put, lz]); rfl) ?_)
     refine qo ?_
     refine take_first (i := 7) rfl (by kernel_rfl) (by kernel_rfl) (by kernel_rfl) (fun _ _ _ h => h) (GivesIf.call (by rfl) (fun w => ?_) (fun w hS => OF.out w hS)) (by assumption) ?_
     · go_simp
       all_goals with_reducible rfl
     try simp only [Act.put, lz]
     refine qi 8 (by assumption) ?_
     iterate 2 (refine qk rfl (by kernel_rfl) (fun _ _ _ h => h) (by intro w hSw; (try dsimp only at hSw); go_simp; all_goals with_reducible rfl) (by (try simp only [Act.put, lz]); rfl) ?_)
     refine qo ?_
     refine wpAnyH_done (by kernel_rfl) ?_ _
     clear hHeld RD OF kcut kfrom s4
     have HB0 := Qh (Below.drew (Below.refl w.heap.size w))
     go_wp2_with fail
     go_loopw [5, 6] (fun v i wr => ∃ (j p : Nat), j ≤ b0 ∧ p = 1 + 4 * j ∧ i = .int .i64 (p : Int) ∧ OwnV wr w.heap.size 2 v (i64V ((mList bs).take j)) ∧ Below w.heap.size w wr) (fun _ i _ => len - (intOf i).toNat)
     case atStart => exact ⟨0, 1, Nat.zero_le _, rfl, rfl, OwnV.nil_ _ _ _, HB0.out⟩
     case round =>
      obtain ⟨j, p, hj, hp, rfl, how, hB⟩ := hrel
      by_cases hlt : j < b0
      · obtain ⟨p4, hp4⟩ : ∃ p4, p4 = p + 4 := ⟨_, rfl⟩
        have hpm : p < m := by have := Hm.out; omega
        have hpl : p4 ≤ len := by have := Hlq.out; omega
        have v1 : IntKind.i64.wrap ((p : Int) + 4) = (p4 : Int) := by rw [IntKind.wrap_i64]; omega
        obtain ⟨aa, haa⟩ : ∃ aa, aa = fromA (some ⟨b, o, none⟩) cap p := ⟨_, rfl⟩
        obtain ⟨cc, hcc⟩ : ∃ cc, cc = cap - p := ⟨_, rfl⟩
        have kf : ∀ x, (Instr.slice 38 (.slice (some ⟨b, o, none⟩) len cap) (some (.int .i64 (p : Int))) (some (.int .i64 (p4 : Int))) none).run Tryz.prog x = .ok (.slice aa 4 cc) x := fun x => by
         have := run_cut_mid (P := Tryz.prog) 38 5 Tryz.underlying38 info_u8 (some ⟨b, o, none⟩) len cap p p4 (by omega) (by omega) x
         rw [this, haa, hcc, show p4 - p = 4 from by omega]
         rfl
        have SP : Sl w w.heap.size aa 4 cc ((bs.take p4).drop p) := by
         have := HS.out.mid (j := p) (k := p4) (by omega) (by omega)
         rw [← haa, ← hcc, show p4 - p = 4 from by omega] at this
         exact this
        have RP := Qh (rread5_any aa 4 cc ((bs.take p4).drop p) wr ((SP.below hB Qn).more hB.size) (by omega))
        have hvl : val ((bs.take p4).drop p) < 4294967296 := by
         have h1 := val_lt ((bs.take p4).drop p) SP.byte
         rw [SP.length] at h1
         simpa using h1
        have Hn : Hid (mNum bs j = ((val ((bs.take p4).drop p) : Nat) : Int)) := by show _ = _; unfold mNum; rw [← hp, hp4, List.drop_take, show p + 4 - p = 4 by omega]
        have Hst := Qh (HSn.out j hlt)
        rw [Hn.out] at Hst
        generalize val ((bs.take p4).drop p) = z at *
        have v3 : IntKind.i64.wrap ((z : Nat) : Int) = (z : Int) := by rw [IntKind.wrap_i64]; omega
        have Hr := Qh (Qa how hB)
        have Hp := Qh (Qa hp hp4)
        have hlen9 : ((mList bs).take j).length ≤ 1000 := by rw [List.length_take, HLn.out]; omega
        clear SP how hB haa hcc hp hp4 Hn
        go_wp2_with fail
        refine RP.out.mono ?_
        rintro e w5 ⟨rfl, rfl⟩
        go_wp2_with (first
         | (at_builtin; refine wpList_append_ints rfl (.tmp 39) (.tmp 47) 50 rfl w.heap.size _ Tryz.underlying50 info_i64m _ ((mList bs).take j) rfl (Hr.out.1.alloc _) _ (some ⟨wr.heap.size, 0, none⟩) 1 1 [(z : Int)] rfl (lit_row wr [(z : Int)] (by simp [maxLen])) rfl (fun h => by cases h) (by omega) (by have := Hr.out.2.size; simp; omega) ?_; intro v6 w6 ho6 hg6 hat6; have hB6 : Below w.heap.size w w6 := (Hr.out.2.alloc Hr.out.2.size _).grown hg6 (by have := Hr.out.2.size; simp; omega) (fun k hk => (Hr.out.1.at_base hk).1); have H6 := Qh (Qa ho6 hB6); clear ho6 hB6 hg6 hat6)
         | fail)
        go_roundw
        case rel => exact ⟨j + 1, p4, by omega, by have := Hp.out; omega, rfl, by rw [Hst.out]; exact H6.out.1, H6.out.2⟩
        case measure => have := Hp.out; simp [intOf]; omega
      have hjb : j = b0 := by omega
      rw [List.take_of_length_le (by rw [HLn.out]; omega)] at how
      obtain ⟨av, cv, rfl, hrv, _⟩ := how.out
      have hpm : ¬ p < m := by have := Hm.out; omega
      have hpm2 : ¬ (p : Int) < (m : Int) := by omega
      have RT := rright5_any (mList bs) av _ cv wr hrv rfl
      have Hr := Qh (Qa how hB)
      obtain ⟨ll, hll⟩ : ∃ ll, ll = (mList bs).length := ⟨_, rfl⟩
      rw [← hll] at RT Hr ⊢
      have RT := Qh RT
      clear how hB hrv hjb hp hll
      generalize hok : mOk (mList bs) = ok at *
      have Hok := Qh hok
      clear hok
      go_wp2_with fail
      refine RT.out.mono ?_
      rintro e w6 ⟨rfl, hb6⟩
      have HB6 := Qh (Qa (Hr.out.2.trans (hb6.mono Hr.out.2.size)) (grown_of_below hb6 none))
      clear hb6
      cases ok
      · go_wp2
        go_ret2
        exact ⟨.slice none 0 0, by rw [hg.out, if_neg (by simp)]; rfl, by rw [hg.out, if_neg (by simp)]; exact OwnV.nil_ _ _ _, HB6.out.1⟩
      go_wp2
      go_ret2
      exact ⟨_, by rw [hg.out, if_pos trivial]; rfl, by rw [hg.out, if_pos trivial]; exact Hr.out.1.keptV HB6.out.2, HB6.out.1⟩
   have hxy2 : ((x4 : Int) == (y4 : Int)) = false := by simp; omega
   have hxy3 : ((x4 : Int) != (y4 : Int)) = true := by simp; omega
   have hg : Hid (mGet bs = ([], 14)) := by
    show _ = _
    rw [HG.out, if_neg (by have := Hlq.out; omega), if_pos hxy]
   go_enter Tryz.func153, Tryz.ntmps153
   go_upto_region 4 with fail
   refine wp_region_held_drew (S := fun x => Below w.heap.size w x) (by kernel_rfl) (Below.drew Qb) (fun hHeld => ?_)
   refine qi 0 (by assumption) ?_
   iterate 3 (refine qk rfl (by kernel_rfl) (fun _ _ _ h => h) (by intro w hSw; (try dsimp only at hSw); go_simp; all_goals with_reducible rfl) (by (try simp only [Act.put, lz]); rfl) ?_)
   refine qo ?_
   refine take_first (i := 3) rfl (by kernel_rfl) (by kernel_rfl) (by kernel_rfl) (fun _ _ _ h => h) (GivesIf.call (by rfl) (fun w => ?_) (fun w hS => RD.out w hS)) (by assumption) ?_
   · go_simp
     all_goals with_reducible rfl
   try simp only [Act.put, lz]
   refine qi 4 (by assumption) ?_
   iterate 3 (refine qk rfl (by kernel_rfl) (fun _ _ _ h => h) (by intro w hSw; (try dsimp only at hSw); go_simp; all_goals with_reducible rfl) (by (try simp only [Act.put, lz]); rfl) ?_)
   refine qo ?_
   refine take_first (i := 7) rfl (by kernel_rfl) (by kernel_rfl) (by kernel_rfl) (fun _ _ _ h => h) (GivesIf.call (by rfl) (fun w => ?_) (fun w hS => OF.out w hS)) (by assumption) ?_
   · go_simp
     all_goals with_reducible rfl
   try simp only [Act.put, lz]
   refine qi 8 (by assumption) ?_
   iterate 2 (refine qk rfl (by kernel_rfl) (fun _ _ _ h => h) (by intro w hSw; (try dsimp only at hSw); go_simp; all_goals with_reducible rfl) (by (try simp only [Act.put, lz]); rfl) ?_)
   refine qo ?_
   refine wpAnyH_done (by kernel_rfl) ?_ _
   clear hHeld
   go_wp2
   go_ret2
   exact ⟨.slice none 0 0, by rw [hg.out]; rfl, by rw [hg.out]; exact OwnV.nil_ _ _ _, Below.drew Qb⟩
 have hlq2 : ((len : Int) == (q : Int)) = false := by simp; omega
 have hlq3 : ((len : Int) != (q : Int)) = true := by simp; omega
 have hg : Hid (mGet bs = ([], 12)) := by show _ = _; rw [HG.out, if_pos (.inr (by have := Hq.out; omega))]
 clear hq
 go_enter Tryz.func153, Tryz.ntmps153
 go_wp2
 go_ret2
 exact ⟨.slice none 0 0, by rw [hg.out]; rfl, by rw [hg.out]; exact OwnV.nil_ _ _ _, Below.refl _ _⟩
end
section
open Go.RowKit Go.Sort
open Go.Maps
attribute [local go_sem] Oper.semAt_some
theorem del_only (t : St) (s : List UInt8) (h : (fat t.D s).isSome = true) : (t.delete s).1 = 0 ∨ (t.delete s).1 = 42 := by
 unfold St.delete
 split
 · exact .inr rfl
 obtain ⟨f, hf⟩ := Option.isSome_iff_exists.1 h
 rw [hf]
 exact .inl rfl
theorem ren_only (t : St) (hm : IsMap t.D) (s u : List UInt8) (hu : nmOk u = true) (h : (t.sync s).1 = 0) : ((t.sync s).2.rename s u).1 = 0 ∨ ((t.sync s).2.rename s u).1 = 42 := by
 have hs : (fat (t.sync s).2.D s).isSome = true := by
  unfold St.sync at h ⊢
  split
  · rename_i h0; rw [if_pos h0] at h; simp at h
  rename_i h0
  rw [if_neg h0] at h
  cases hf : fat t.D s with
  | none => rw [hf] at h; simp at h
  | some f =>
   rw [hf] at h
   simp only at h ⊢
   split
   · rename_i h1; rw [if_pos h1] at h; simp at h
   show (fat (t.D.put (.string s) (.held ⟨f.bs, f.bs.length⟩)) s).isSome = true
   rw [fat_put_same hm]
   rfl
 unfold St.rename
 split
 · exact .inr rfl
 split
 · rename_i h1; rw [hu] at h1; simp at h1
 obtain ⟨f, hf⟩ := Option.isSome_iff_exists.1 hs
 rw [hf]
 exact .inl rfl
theorem mfL_ok : nmOk mfL = true := by decide
theorem mSwap_no (t : St) (l : List Int) (hok : mOk l = true) (h : (fat t.D nxL).isSome = true) (h0 : (t.delete nxL).1 ≠ 0) : mSwap t l = t.delete nxL := by
 have hd : delNext t = t.delete nxL := by unfold delNext; rw [if_pos h]
 have h42 : (t.delete nxL).1 = 42 := (del_only t nxL h).resolve_left h0
 unfold mSwap
 rw [if_pos hok]
 unfold mTurn
 simp only [mAns, mSt, hd]
 rw [if_pos h0]
 unfold mClean
 simp only [h42]
 rw [if_neg (by simp)]
 exact Prod.ext h42.symm rfl
theorem mSwap_of (t t1 : St) (l : List Int) (hm : IsMap (t1.write nxL (mPut l)).2.D) (hok : mOk l = true) (hd : delNext t = (0, t1)) : mSwap t l =
 if (t1.write nxL (mPut l)).1 ≠ 0 then ((t1.write nxL (mPut l)).1, mClean (t1.write nxL (mPut l)).1 (t1.write nxL (mPut l)).2)
 else if ((t1.write nxL (mPut l)).2.sync nxL).1 ≠ 0 then (((t1.write nxL (mPut l)).2.sync nxL).1, mClean ((t1.write nxL (mPut l)).2.sync nxL).1 ((t1.write nxL (mPut l)).2.sync nxL).2)
 else ((t1.write nxL (mPut l)).2.sync nxL).2.rename nxL mfL := by
 unfold mSwap
 rw [if_pos hok]
 unfold mTurn
 simp only [mAns, mSt, hd]
 rw [if_neg (by simp)]
 by_cases h1 : (t1.write nxL (mPut l)).1 ≠ 0
 · rw [if_pos h1, if_pos h1]
 rw [if_neg h1, if_neg h1]
 by_cases h2 : ((t1.write nxL (mPut l)).2.sync nxL).1 ≠ 0
 · rw [if_pos h2, if_pos h2]
 rw [if_neg h2, if_neg h2]
 have := ren_only (t1.write nxL (mPut l)).2 hm nxL mfL mfL_ok (by omega)
 refine Prod.ext rfl ?_
 show mClean _ _ = _
 unfold mClean
 rw [if_neg (by omega)]
theorem rload_any {w0 w : World} {rp : Nat} {t : St} {O : Nat → Prop} (h : RK w0 w rp t O) :
 Calls Tryz.prog 90 #[.pointer (some ⟨rp, 0, none⟩)] w fun e w' => ∃ v, e = .returned (.tuple #[v, .int .i64 (((mLoad t).2 : Nat) : Int)]) ∧ OwnV w' w.heap.size 2 v (i64V (mLoad t).1) ∧ Below w.heap.size w w' := by
 have RD := h.read mfS
 change Calls _ _ _ _ (NewBytes w ((fat t.D mfL).getD Fl.zero).bs (fat t.D mfL).isSome) at RD
 unfold mfS at RD
 have RD := Qh RD
 have hby := fat_byte h.good mfL
 have hG := h.good
 clear h
 cases hf : fat t.D mfL with
 | none =>
  have hm : Hid (mLoad t = ([], 3)) := by show _ = _; unfold mLoad; rw [hf]
  rw [hf] at RD
  clear hby hG
  go_enter Tryz.func90, Tryz.ntmps90
  go_wp2_with fail
  refine RD.out.mono ?_
  rintro e w1 ⟨a, c, rfl, _, hB⟩
  have HB := Qh hB
  clear hB
  go_wp2
  go_ret2
  rw [hm.out]
  exact ⟨_, rfl, OwnV.nil_ _ _ _, HB.out⟩
 | some f =>
  have hm : Hid (mLoad t = mGet f.bs) := by show _ = _; unfold mLoad; rw [hf]
  rw [hf] at RD hby
  have hlen : f.bs.length ≤ 2000000 := by have h1 := (hG.at_ hf).2.2.2; have h2 := hG.tot_; have h3 := hG.room_; omega
  change Hid (Calls _ _ _ _ (NewBytes w f.bs true)) at RD
  change ∀ c ∈ f.bs, c < 256 at hby
  clear hG
  go_enter Tryz.func90, Tryz.ntmps90
  go_wp2_with fail
  refine RD.out.mono ?_
  rintro e w1 ⟨a, c, rfl, ho, hB⟩
  obtain ⟨a', c', e1, hs, _⟩ := ho.sl_base hby
  injection e1 with e2 e3 e4
  subst e2 e4
  have GT := Qh (rget5_any a f.bs.length c f.bs w1 hs hlen)
  have HB := Qh hB
  clear hB ho hs RD
  go_wp2_with fail
  refine GT.out.mono ?_
  rintro e w2 ⟨v, rfl, hv, hb2⟩
  have HF := Qh (Qa (OwnV.mono hv HB.out.size) (HB.out.trans (hb2.mono HB.out.size)))
  clear hv hb2 GT
  go_wp2
  go_ret2
  rw [hm.out]
  exact ⟨v, rfl, HF.out⟩
end
section
open Go.RowKit Go.Sort
open Go.Maps
attribute [local go_sem] Oper.semAt_some
theorem Mr.then_ {w0 w w1 w' : World} {rp : Nat} {O O1 : Nat → Prop} {t : St} (hb : But O w w1) (hO : ∀ k, O1 k → O k ∨ w.heap.size ≤ k) (h : Mr w0 w1 rp O1 t w') : Mr w0 w rp O t w' := by
 obtain ⟨O', h1, h2, h3⟩ := h
 exact ⟨O', h1, hb.trans h2 hO, fun k hk => by rcases h3 k hk with h4 | h4; exact hO k h4; exact .inr (Nat.le_trans hb.size h4)⟩
theorem rswap5_any {w0 w : World} {rp : Nat} {t : St} {O : Nat → Prop} (h : RK w0 w rp t O) (l : List Int) (a : Option Addr) (n c : Nat) (hr : Row w w.heap.size a n c 1 (intsC l)) (hn : l.length = n)
 (hfar : 0 < n → ∀ k o, a = some ⟨k, o, none⟩ → ¬ O k) :
 Calls Tryz.prog 93 #[.pointer (some ⟨rp, 0, none⟩), .slice a n c] w fun e w' => e = .returned (.int .i64 (mSwap t l).1) ∧ Mr w0 w rp O (mSwap t l).2 w' := by
 have R := Qh (rright5_any l a n c w hr hn)
 have HRW : Hid (∀ (x : World) {O1 : Nat → Prop}, But O w x → (∀ k, O1 k → O k ∨ w.heap.size ≤ k) → Row x x.heap.size a n c 1 (intsC l)) := fun x _ hx _ => Row.but hr hx hfar
 have HK := Qh h
 clear h hr hfar
 by_cases hok : mOk l = true
 · rw [hok] at R
   go_enter Tryz.func93, Tryz.ntmps93
   go_wp2_with fail
   refine R.out.mono ?_
   rintro e w1 ⟨rfl, hb1⟩
   have HK1 := Qh (HK.out.on hb1)
   have B1 := Qh hb1
   have RD := HK1.out.read nxS
   change Calls _ _ _ _ (NewBytes w1 ((fat t.D nxL).getD Fl.zero).bs (fat t.D nxL).isSome) at RD
   unfold nxS at RD
   have RD := Qh RD
   clear hb1 R
   go_wp2_with fail
   refine RD.out.mono ?_
   rintro e w2 ⟨xa, xc, rfl, _, hb2⟩
   have HK2 := Qh (HK1.out.on hb2)
   have B2 := Qh (B1.out.trans (hb2.mono B1.out.size))
   clear hb2 RD HK1
   by_cases his : (fat t.D nxL).isSome = true
   · rw [his]
     have DL := HK2.out.delete nxS
     change Calls _ _ _ _ (fun e w' => e = .returned (.int .i64 (t.delete nxL).1) ∧ Mr w0 w2 rp O (t.delete nxL).2 w') at DL
     unfold nxS at DL
     have DL := Qh DL
     have hdn : delNext t = t.delete nxL := by unfold delNext; rw [if_pos his]
     have HN := Qh (mSwap_no t l hok his)
     generalize t.delete nxL = r0 at *
     go_wp2_with fail
     refine DL.out.mono ?_
     rintro e w2b ⟨rfl, hmv⟩
     obtain ⟨O1, k1, b1, f1⟩ := hmv
     have K1 : Hid (RK w0 w2b rp r0.2 O1 ∧ But O w w2b ∧ ∀ k, O1 k → O k ∨ w.heap.size ≤ k) := ⟨k1, (But.of_below (O := O) B2.out).trans b1 (fun _ hi => .inl hi), fun k hk => by
      rcases f1 k hk with h1 | h1
      · exact .inl h1
      exact .inr (Nat.le_trans B2.out.size h1)⟩
     clear k1 b1 f1 DL
     by_cases h0 : r0.1 = 0
     · obtain ⟨t1, ht1⟩ : ∃ t1, t1 = r0.2 := ⟨_, rfl⟩
       rw [← ht1] at K1
       have hd1 : delNext t = (0, t1) := hdn.trans (Prod.ext h0 ht1.symm)
       rw [h0]
       clear hdn HN ht1 h0
       obtain ⟨r1, hr1⟩ : ∃ r1, r1 = t1.write nxL (mPut l) := ⟨_, rfl⟩
       obtain ⟨r2, hr2⟩ : ∃ r2, r2 = r1.2.sync nxL := ⟨_, rfl⟩
       obtain ⟨r3, hr3⟩ : ∃ r3, r3 = r2.2.rename nxL mfL := ⟨_, rfl⟩
       have HR1 := Qh hr1
       have HR2 := Qh hr2
       have HR3 := Qh hr3
       clear hr1 hr2 hr3
       have PU := Qh (rput5_any l a n c _ (HRW.out _ K1.out.2.1 K1.out.2.2) hn)
       go_wp2_with fail
       refine PU.out.mono ?_
       rintro e w3 ⟨v, rfl, hov, hb3⟩
       obtain ⟨pa, pc, hv, hs3, hbb⟩ := hov.sl_base (mPut_byte l)
       subst hv
       have hpl := mPut_len l
       have WR := (K1.out.1.on hb3).write nxS (by decide) pa (mPut l).length pc (mPut l) hs3 (by omega) (fun hp k o e ho => by have := hbb k o e; have := K1.out.1.lt k ho; omega)
       change Calls _ _ _ _ (fun e w' => e = .returned (.int .i64 (t1.write nxL (mPut l)).1) ∧ Mr w0 w3 rp O1 (t1.write nxL (mPut l)).2 w') at WR
       rw [← HR1.out] at WR
       unfold nxS at WR
       have WR := Qh WR
       have B3 := Qh hb3
       clear PU hov hs3 hbb hb3
       go_wp2_with fail
       refine WR.out.mono ?_
       rintro e w4 ⟨rfl, hmv⟩
       obtain ⟨O4, k4, b4, f4⟩ := hmv
       have K4 : Hid (RK w0 w4 rp r1.2 O4 ∧ But O w w4 ∧ ∀ k, O4 k → O k ∨ w.heap.size ≤ k) := ⟨k4, K1.out.2.1.trans ((But.of_below (O := O1) B3.out).trans b4 (fun _ hi => .inl hi)) K1.out.2.2, fun k hk => by
        rcases f4 k hk with h1 | h1
        · exact K1.out.2.2 k h1
        exact .inr (Nat.le_trans (Nat.le_trans K1.out.2.1.size B3.out.size) h1)⟩
       clear k4 b4 f4 WR
       have hmap : IsMap r1.2.D := canon_map K4.out.1.good.canon
       rw [HR1.out] at hmap
       have hsw := mSwap_of t t1 l hmap hok hd1
       rw [← HR1.out, ← HR2.out, ← HR3.out] at hsw
       have HSW := Qh hsw
       clear hsw hmap
       by_cases h1 : r1.1 = 0
       · rw [h1]
         have SY := Qh (K4.out.1.sync nxS)
         change Hid (Calls _ _ _ _ (fun e w' => e = .returned (.int .i64 (r1.2.sync nxL).1) ∧ Mr w0 w4 rp O4 (r1.2.sync nxL).2 w')) at SY
         rw [← HR2.out] at SY
         unfold nxS at SY
         go_wp2_with fail
         refine SY.out.mono ?_
         rintro e w5 ⟨rfl, hmv⟩
         obtain ⟨O5, k5, b5, f5⟩ := hmv
         have K5 : Hid (RK w0 w5 rp r2.2 O5 ∧ But O w w5 ∧ ∀ k, O5 k → O k ∨ w.heap.size ≤ k) := ⟨k5, K4.out.2.1.trans b5 K4.out.2.2, fun k hk => by
          rcases f5 k hk with h1 | h1
          · exact K4.out.2.2 k h1
          exact .inr (Nat.le_trans K4.out.2.1.size h1)⟩
         clear k5 b5 f5 SY
         by_cases h2 : r2.1 = 0
         · rw [h2]
           have hF : Hid (mSwap t l = r3) := HSW.out.trans (by rw [if_neg (by omega), if_neg (by omega)])
           have RN := Qh (K5.out.1.rename nxS mfS (by decide))
           change Hid (Calls _ _ _ _ (fun e w' => e = .returned (.int .i64 (r2.2.rename nxL mfL).1) ∧ Mr w0 w5 rp O5 (r2.2.rename nxL mfL).2 w')) at RN
           rw [← HR3.out] at RN
           unfold nxS mfS at RN
           go_wp2_with fail
           refine RN.out.mono ?_
           rintro e w6 ⟨rfl, hmv⟩
           have HZ := Qh (Mr.then_ K5.out.2.1 K5.out.2.2 hmv)
           clear hmv RN
           go_wp2
           go_ret
           rw [hF.out]
           exact ⟨rfl, HZ.out⟩
         have hF : Hid (mSwap t l = (r2.1, mClean r2.1 r2.2)) := HSW.out.trans (by rw [if_neg (by omega), if_pos h2])
         have c2 : ((r2.1 : Int) == 0) = false := by simp [h2]
         by_cases h42 : r2.1 = 42
         · have c42 : ((r2.1 : Int) != 42) = false := by simp [h42]
           go_wp2
           go_ret
           rw [hF.out]
           refine ⟨ret_i64 h42.symm, ?_⟩
           unfold mClean
           rw [if_neg (by omega)]
           exact ⟨_, K5.out.1, K5.out.2.1, K5.out.2.2⟩
         have c42 : ((r2.1 : Int) != 42) = true := by simp [h42]
         have DL := Qh (K5.out.1.delete nxS)
         change Hid (Calls _ _ _ _ (fun e w' => e = .returned (.int .i64 (r2.2.delete nxL).1) ∧ Mr w0 _ rp O5 (r2.2.delete nxL).2 w')) at DL
         unfold nxS at DL
         generalize hdl : r2.2.delete nxL = rdl at DL
         have HDL := Qh hdl
         clear hdl
         go_wp2_with fail
         refine DL.out.mono ?_
         rintro e wz ⟨rfl, hmv⟩
         have HZ := Qh (Mr.then_ K5.out.2.1 K5.out.2.2 hmv)
         clear hmv DL
         go_wp2
         go_ret
         rw [hF.out]
         refine ⟨rfl, ?_⟩
         unfold mClean
         rw [if_pos ⟨h2, h42⟩, HDL.out]
         exact HZ.out
       have hF : Hid (mSwap t l = (r1.1, mClean r1.1 r1.2)) := HSW.out.trans (by rw [if_pos h1])
       have c1 : ((r1.1 : Int) == 0) = false := by simp [h1]
       by_cases h42 : r1.1 = 42
       · have c42 : ((r1.1 : Int) != 42) = false := by simp [h42]
         go_wp2
         go_ret
         rw [hF.out]
         refine ⟨ret_i64 h42.symm, ?_⟩
         unfold mClean
         rw [if_neg (by omega)]
         exact ⟨_, K4.out.1, K4.out.2.1, K4.out.2.2⟩
       have c42 : ((r1.1 : Int) != 42) = true := by simp [h42]
       have DL := Qh (K4.out.1.delete nxS)
       change Hid (Calls _ _ _ _ (fun e w' => e = .returned (.int .i64 (r1.2.delete nxL).1) ∧ Mr w0 _ rp O4 (r1.2.delete nxL).2 w')) at DL
       unfold nxS at DL
       generalize hdl : r1.2.delete nxL = rdl at DL
       have HDL := Qh hdl
       clear hdl
       go_wp2_with fail
       refine DL.out.mono ?_
       rintro e wz ⟨rfl, hmv⟩
       have HZ := Qh (Mr.then_ K4.out.2.1 K4.out.2.2 hmv)
       clear hmv DL
       go_wp2
       go_ret
       rw [hF.out]
       refine ⟨rfl, ?_⟩
       unfold mClean
       rw [if_pos ⟨h1, h42⟩, HDL.out]
       exact HZ.out
     have hF : Hid (mSwap t l = r0) := HN.out h0
     have c0 : ((r0.1 : Int) != 0) = true := by simp [h0]
     go_wp2
     go_ret
     rw [hF.out]
     exact ⟨rfl, _, K1.out.1, K1.out.2.1, K1.out.2.2⟩
   have hno : (fat t.D nxL).isSome = false := by simpa using his
   rw [hno]
   obtain ⟨t1, ht1⟩ : ∃ t1, t1 = t := ⟨_, rfl⟩
   have hd1 : delNext t = (0, t1) := by unfold delNext; rw [if_neg his, ht1]
   obtain ⟨O1, hO1⟩ : ∃ O1, O1 = O := ⟨_, rfl⟩
   have K1 : Hid (RK w0 w2 rp t1 O1 ∧ But O w w2 ∧ ∀ k, O1 k → O k ∨ w.heap.size ≤ k) := by rw [ht1, hO1]; exact ⟨HK2.out, But.of_below B2.out, fun _ hk => .inl hk⟩
   clear ht1 hO1 his hno
   obtain ⟨r1, hr1⟩ : ∃ r1, r1 = t1.write nxL (mPut l) := ⟨_, rfl⟩
   obtain ⟨r2, hr2⟩ : ∃ r2, r2 = r1.2.sync nxL := ⟨_, rfl⟩
   obtain ⟨r3, hr3⟩ : ∃ r3, r3 = r2.2.rename nxL mfL := ⟨_, rfl⟩
   have HR1 := Qh hr1
   have HR2 := Qh hr2
   have HR3 := Qh hr3
   clear hr1 hr2 hr3
   have PU := Qh (rput5_any l a n c _ (HRW.out _ K1.out.2.1 K1.out.2.2) hn)
   go_wp2_with fail
   refine PU.out.mono ?_
   rintro e w3 ⟨v, rfl, hov, hb3⟩
   obtain ⟨pa, pc, hv, hs3, hbb⟩ := hov.sl_base (mPut_byte l)
   subst hv
   have hpl := mPut_len l
   have WR := (K1.out.1.on hb3).write nxS (by decide) pa (mPut l).length pc (mPut l) hs3 (by omega) (fun hp k o e ho => by have := hbb k o e; have := K1.out.1.lt k ho; omega)
   change Calls _ _ _ _ (fun e w' => e = .returned (.int .i64 (t1.write nxL (mPut l)).1) ∧ Mr w0 w3 rp O1 (t1.write nxL (mPut l)).2 w') at WR
   rw [← HR1.out] at WR
   unfold nxS at WR
   have WR := Qh WR
   have B3 := Qh hb3
   clear PU hov hs3 hbb hb3
   go_wp2_with fail
   refine WR.out.mono ?_
   rintro e w4 ⟨rfl, hmv⟩
   obtain ⟨O4, k4, b4, f4⟩ := hmv
   have K4 : Hid (RK w0 w4 rp r1.2 O4 ∧ But O w w4 ∧ ∀ k, O4 k → O k ∨ w.heap.size ≤ k) := ⟨k4, K1.out.2.1.trans ((But.of_below (O := O1) B3.out).trans b4 (fun _ hi => .inl hi)) K1.out.2.2, fun k hk => by
    rcases f4 k hk with h1 | h1
    · exact K1.out.2.2 k h1
    exact .inr (Nat.le_trans (Nat.le_trans K1.out.2.1.size B3.out.size) h1)⟩
   clear k4 b4 f4 WR
   have hmap : IsMap r1.2.D := canon_map K4.out.1.good.canon
   rw [HR1.out] at hmap
   have hsw := mSwap_of t t1 l hmap hok hd1
   rw [← HR1.out, ← HR2.out, ← HR3.out] at hsw
   have HSW := Qh hsw
   clear hsw hmap
   by_cases h1 : r1.1 = 0
   · rw [h1]
     have SY := Qh (K4.out.1.sync nxS)
     change Hid (Calls _ _ _ _ (fun e w' => e = .returned (.int .i64 (r1.2.sync nxL).1) ∧ Mr w0 w4 rp O4 (r1.2.sync nxL).2 w')) at SY
     rw [← HR2.out] at SY
     unfold nxS at SY
     go_wp2_with fail
     refine SY.out.mono ?_
     rintro e w5 ⟨rfl, hmv⟩
     obtain ⟨O5, k5, b5, f5⟩ := hmv
     have K5 : Hid (RK w0 w5 rp r2.2 O5 ∧ But O w w5 ∧ ∀ k, O5 k → O k ∨ w.heap.size ≤ k) := ⟨k5, K4.out.2.1.trans b5 K4.out.2.2, fun k hk => by
      rcases f5 k hk with h1 | h1
      · exact K4.out.2.2 k h1
      exact .inr (Nat.le_trans K4.out.2.1.size h1)⟩
     clear k5 b5 f5 SY
     by_cases h2 : r2.1 = 0
     · rw [h2]
       have hF : Hid (mSwap t l = r3) := HSW.out.trans (by rw [if_neg (by omega), if_neg (by omega)])
       have RN := Qh (K5.out.1.rename nxS mfS (by decide))
       change Hid (Calls _ _ _ _ (fun e w' => e = .returned (.int .i64 (r2.2.rename nxL mfL).1) ∧ Mr w0 w5 rp O5 (r2.2.rename nxL mfL).2 w')) at RN
       rw [← HR3.out] at RN
       unfold nxS mfS at RN
       go_wp2_with fail
       refine RN.out.mono ?_
       rintro e w6 ⟨rfl, hmv⟩
       have HZ := Qh (Mr.then_ K5.out.2.1 K5.out.2.2 hmv)
       clear hmv RN
       go_wp2
       go_ret
       rw [hF.out]
       exact ⟨rfl, HZ.out⟩
     have hF : Hid (mSwap t l = (r2.1, mClean r2.1 r2.2)) := HSW.out.trans (by rw [if_neg (by omega), if_pos h2])
     have c2 : ((r2.1 : Int) == 0) = false := by simp [h2]
     by_cases h42 : r2.1 = 42
     · have c42 : ((r2.1 : Int) != 42) = false := by simp [h42]
       go_wp2
       go_ret
       rw [hF.out]
       refine ⟨ret_i64 h42.symm, ?_⟩
       unfold mClean
       rw [if_neg (by omega)]
       exact ⟨_, K5.out.1, K5.out.2.1, K5.out.2.2⟩
     have c42 : ((r2.1 : Int) != 42) = true := by simp [h42]
     have DL := Qh (K5.out.1.delete nxS)
     change Hid (Calls _ _ _ _ (fun e w' => e = .returned (.int .i64 (r2.2.delete nxL).1) ∧ Mr w0 _ rp O5 (r2.2.delete nxL).2 w')) at DL
     unfold nxS at DL
     generalize hdl : r2.2.delete nxL = rdl at DL
     have HDL := Qh hdl
     clear hdl
     go_wp2_with fail
     refine DL.out.mono ?_
     rintro e wz ⟨rfl, hmv⟩
     have HZ := Qh (Mr.then_ K5.out.2.1 K5.out.2.2 hmv)
     clear hmv DL
     go_wp2
     go_ret
     rw [hF.out]
     refine ⟨rfl, ?_⟩
     unfold mClean
     rw [if_pos ⟨h2, h42⟩, HDL.out]
     exact HZ.out
   have hF : Hid (mSwap t l = (r1.1, mClean r1.1 r1.2)) := HSW.out.trans (by rw [if_pos h1])
   have c1 : ((r1.1 : Int) == 0) = false := by simp [h1]
   by_cases h42 : r1.1 = 42
   · have c42 : ((r1.1 : Int) != 42) = false := by simp [h42]
     go_wp2
     go_ret
     rw [hF.out]
     refine ⟨ret_i64 h42.symm, ?_⟩
     unfold mClean
     rw [if_neg (by omega)]
     exact ⟨_, K4.out.1, K4.out.2.1, K4.out.2.2⟩
   have c42 : ((r1.1 : Int) != 42) = true := by simp [h42]
   have DL := Qh (K4.out.1.delete nxS)
   change Hid (Calls _ _ _ _ (fun e w' => e = .returned (.int .i64 (r1.2.delete nxL).1) ∧ Mr w0 _ rp O4 (r1.2.delete nxL).2 w')) at DL
   unfold nxS at DL
   generalize hdl : r1.2.delete nxL = rdl at DL
   have HDL := Qh hdl
   clear hdl
   go_wp2_with fail
   refine DL.out.mono ?_
   rintro e wz ⟨rfl, hmv⟩
   have HZ := Qh (Mr.then_ K4.out.2.1 K4.out.2.2 hmv)
   clear hmv DL
   go_wp2
   go_ret
   rw [hF.out]
   refine ⟨rfl, ?_⟩
   unfold mClean
   rw [if_pos ⟨h1, h42⟩, HDL.out]
   exact HZ.out
 have hsw : Hid (mSwap t l = (1, t)) := if_neg hok
 have hno : mOk l = false := by simpa using hok
 rw [hno] at R
 go_enter Tryz.func93, Tryz.ntmps93
 go_wp2_with fail
 refine R.out.mono ?_
 rintro e w1 ⟨rfl, hb1⟩
 have HF := Qh (show Mr w0 w rp O t w1 from ⟨O, HK.out.on hb1, But.of_below hb1, fun _ hk => .inl hk⟩)
 clear hb1
 go_wp2
 go_ret
 rw [hsw.out]
 exact ⟨rfl, HF.out⟩
end
section
open Go.RowKit Go.Sort Go.Maps
open Crc Frm
open Sgn
attribute [local go_sem] Oper.semAt_some
structure RLogC (w : World) (lp rp size : Nat) (g : Lg) (sa : Option Addr) (sc : Nat) : Prop where
 blk : w.heap[lp]? = some (.cells #[.pointer (some ⟨rp, 0, none⟩), .int .i64 (size : Int), .slice sa g.segs.length sc, .int .i64 g.next] 86 (0, 0))
 row : Row w w.heap.size sa g.segs.length sc 1 (intsC g.segs)
 nil_ : sa = none → g.segs.length = 0 ∧ sc = 0
section
variable {w w' : World} {lp rp size : Nat} {g : Lg} {sa : Option Addr} {sc : Nat}
theorem RLogC.c0 (h : RLogC w lp rp size g sa sc) : w.cell? ⟨lp, 0, none⟩ = some (.pointer (some ⟨rp, 0, none⟩)) := (cell_of_row w lp 0 _ _ _ h.blk).trans rfl
theorem RLogC.c1 (h : RLogC w lp rp size g sa sc) : w.cell? ⟨lp, 1, none⟩ = some (.int .i64 (size : Int)) := (cell_of_row w lp 1 _ _ _ h.blk).trans rfl
theorem RLogC.c2 (h : RLogC w lp rp size g sa sc) : w.cell? ⟨lp, 2, none⟩ = some (.slice sa g.segs.length sc) := (cell_of_row w lp 2 _ _ _ h.blk).trans rfl
theorem RLogC.c3 (h : RLogC w lp rp size g sa sc) : w.cell? ⟨lp, 3, none⟩ = some (.int .i64 g.next) := (cell_of_row w lp 3 _ _ _ h.blk).trans rfl
theorem RLogC.z (h : RLogC w lp rp size g sa sc) (o : Nat) : w.frozen? ⟨lp, o, none⟩ = false := frozen_of_row w lp o _ _ h.blk
theorem RLogC.lt (h : RLogC w lp rp size g sa sc) : lp < w.heap.size := lt_of_heap h.blk
theorem RLogC.on (h : RLogC w lp rp size g sa sc) (hb : Below w.heap.size w w') : RLogC w' lp rp size g sa sc := ⟨(hb.block lp h.lt).trans h.blk, (h.row.below hb Qn).more hb.size, h.nil_⟩
theorem RLogC.but {O : Nat → Prop} (h : RLogC w lp rp size g sa sc) (hb : But O w w') (hl : ¬ O lp) (hs : ∀ k o, sa = some ⟨k, o, none⟩ → ¬ O k) : RLogC w' lp rp size g sa sc :=
 ⟨(hb.block lp h.lt hl).trans h.blk, h.row.but hb (fun _ => hs), h.nil_⟩
end
def rlO (D : Nat → Prop) (lp : Nat) (sa : Option Addr) (k : Nat) : Prop := D k ∨ k = lp ∨ ∃ o, sa = some ⟨k, o, none⟩
structure RLK (w0 w : World) (rp lp size : Nat) (g : Lg) (t : St) (D : Nat → Prop) (sa : Option Addr) (sc : Nat) : Prop where
 rk : RK w0 w rp t D
 at_ : RLogC w lp rp size g sa sc
 base : w0.heap.size ≤ lp
 own : ¬ D lp
 far : ∀ k o, sa = some ⟨k, o, none⟩ → ¬ D k ∧ k ≠ lp ∧ w0.heap.size ≤ k ∧ k < w.heap.size
def RLv (w0 w : World) (rp lp size : Nat) (O : Nat → Prop) (g : Lg) (t : St) (w' : World) : Prop :=
 ∃ D' sa' sc', RLK w0 w' rp lp size g t D' sa' sc' ∧ But O w w' ∧ ∀ k, rlO D' lp sa' k → O k ∨ w.heap.size ≤ k
section
variable {w0 w w' : World} {rp lp size : Nat} {g : Lg} {t t' : St} {D : Nat → Prop} {sa : Option Addr} {sc : Nat}
theorem RLK.on (h : RLK w0 w rp lp size g t D sa sc) (hb : Below w.heap.size w w') : RLK w0 w' rp lp size g t D sa sc :=
 ⟨h.rk.on hb, h.at_.on hb, h.base, h.own, fun k o e => by obtain ⟨h1, h2, h3, h4⟩ := h.far k o e; exact ⟨h1, h2, h3, Nat.lt_of_lt_of_le h4 hb.size⟩⟩
theorem RLK.lt (h : RLK w0 w rp lp size g t D sa sc) : ∀ k, rlO D lp sa k → k < w.heap.size := fun k hk => by
 rcases hk with h1 | rfl | ⟨o, h1⟩
 · exact h.rk.lt k h1
 · exact h.at_.lt
 exact (h.far k o h1).2.2.2
theorem RLK.ge (h : RLK w0 w rp lp size g t D sa sc) : ∀ k, rlO D lp sa k → w0.heap.size ≤ k := fun k hk => by
 rcases hk with h1 | rfl | ⟨o, h1⟩
 · exact h.rk.base k h1
 · exact h.base
 exact (h.far k o h1).2.2.1
theorem RLK.but (h : RLK w0 w rp lp size g t D sa sc) {D' : Nat → Prop} (hd : RK w0 w' rp t' D') (hb : But D w w') (hD : ∀ k, D' k → D k ∨ w.heap.size ≤ k) : RLK w0 w' rp lp size g t' D' sa sc :=
 ⟨hd, h.at_.but hb h.own (fun k o e => (h.far k o e).1), h.base, fun ho => by rcases hD lp ho with h1 | h1; exact h.own h1; have := h.at_.lt; omega,
  fun k o e => by
   obtain ⟨h1, h2, h3, h4⟩ := h.far k o e
   exact ⟨fun ho => by rcases hD k ho with h5 | h5; exact h1 h5; omega, h2, h3, Nat.lt_of_lt_of_le h4 hb.size⟩⟩
theorem RLK.mv (h : RLK w0 w rp lp size g t D sa sc) (hm : Mr w0 w rp D t' w') : RLv w0 w rp lp size (rlO D lp sa) g t' w' := by
 obtain ⟨D', h1, h2, h3⟩ := hm
 exact ⟨D', sa, sc, h.but h1 h2 h3, h2.more (fun k hk => .inl hk), fun k hk => by
  rcases hk with h4 | h4
  · rcases h3 k h4 with h5 | h5
    · exact .inl (.inl h5)
    exact .inr h5
  exact .inl (.inr h4)⟩
theorem RLK.still (h : RLK w0 w rp lp size g t D sa sc) (hb : Below w.heap.size w w') : RLv w0 w rp lp size (rlO D lp sa) g t w' :=
 ⟨D, sa, sc, h.on hb, But.of_below hb, fun _ hk => .inl hk⟩
theorem RLv.then {w1 : World} {O O1 : Nat → Prop} (hb : But O w w1) (hO : ∀ k, O1 k → O k ∨ w.heap.size ≤ k) (h : RLv w0 w1 rp lp size O1 g t w') : RLv w0 w rp lp size O g t w' := by
 obtain ⟨D', sa', sc', h1, h2, h3⟩ := h
 exact ⟨D', sa', sc', h1, hb.trans h2 hO, fun k hk => by rcases h3 k hk with h4 | h4; exact hO k h4; exact .inr (Nat.le_trans hb.size h4)⟩
end
theorem rlast_any {w : World} {lp rp size : Nat} {g : Lg} {sa : Option Addr} {sc : Nat} (h : RLogC w lp rp size g sa sc) (hne : g.segs ≠ []) :
 Calls Tryz.prog 96 #[.pointer (some ⟨lp, 0, none⟩)] w fun e w' => e = .returned (.string ⟨(lgLast g).toArray⟩) ∧ Below w.heap.size w w' := by
 have hlen : 0 < g.segs.length := List.length_pos_iff.2 hne
 obtain ⟨b, o, rfl, hb, hc⟩ := h.row.at_ hlen
 have hmx := h.row.le
 have hmx2 := h.row.max
 unfold maxLen at hmx2
 have c2 := h.c2
 obtain ⟨n, hn⟩ : ∃ n, n = g.segs.length := ⟨_, rfl⟩
 obtain ⟨m, hm⟩ : ∃ m, m = n - 1 := ⟨_, rfl⟩
 have hv : g.segs.getD m 0 = g.segs.getLastD 0 := by rw [getLastD_getD, hm, hn]
 have cm : w.cell? ⟨b, o + m, none⟩ = some (.int .i64 (g.segs.getLastD 0)) := (hc m (by omega)).trans (by show some (Value.int .i64 (g.segs.getD m 0)) = _; rw [hv])
 rw [← hn] at c2 hlen hmx
 have h0 : (0 : Int) ≤ (m : Int) := by omega
 have h1 : (m : Int) < (n : Int) := by omega
 have hw : IntKind.i64.wrap ((n : Int) - 1) = (m : Int) := by rw [IntKind.wrap_i64]; omega
 have HN := Qh (fun x (hb : Below w.heap.size w x) => rsname_any (g.segs.getLastD 0) x)
 have hlg : Hid (lgLast g = nm (g.segs.getLastD 0)) := rfl
 generalize g.segs.getLastD 0 = v at *
 clear hc hv hn hm h hne hb hmx hmx2
 go_enter Tryz.func96, Tryz.ntmps96
 go_wp2_with fail
 refine wp_region_held_drew (S := fun x => x.cell? ⟨lp, 2, none⟩ = some (.slice (some ⟨b, o, none⟩) n sc) ∧ x.cell? ⟨b, o + m, none⟩ = some (.int .i64 v) ∧ Below w.heap.size w x) (by kernel_rfl) ⟨c2, cm, Below.drew Qb⟩ (fun hHeld => ?_)
 refine qi 0 (by assumption) ?_
 iterate 12 (refine qk rfl (by kernel_rfl) (fun _ _ _ h => h) (by intro w hSw; (try dsimp only at hSw); go_simp; all_goals with_reducible rfl) (by (try simp only [Act.put, lz]); rfl) ?_)
 refine qo ?_
 refine qr 12 rfl (by kernel_rfl) (fun K hK => ?_)
 rw [if_pos (by rfl)]
 go_simp
 go_at_call 56
 refine (HN.out _ (Below.drew Qb)).mono ?_
 rintro e w2 ⟨rfl, hb2⟩
 have B2 : Below w.heap.size w w2 := below_drew_of hb2
 clear hb2
 refine hK.out _ _ ?_ (fun hHeld => ?_)
 · exact ⟨(B2.cell (p := ⟨lp, 2, none⟩) (block_lt_of_cell c2)).trans c2, (B2.cell (p := ⟨b, o + m, none⟩) (block_lt_of_cell cm)).trans cm, B2⟩
 clear hK K
 try simp only [Act.put, lz]
 refine qi 13 (by assumption) ?_
 refine qk rfl (by kernel_rfl) (fun _ _ _ h => h) (by intro w hSw; (try dsimp only at hSw); go_simp; all_goals with_reducible rfl) (by (try simp only [Act.put, lz]); rfl) ?_
 refine qo ?_
 refine wpAnyH_done (by kernel_rfl) ?_ _
 go_wp2
 go_ret
 exact ⟨by rw [hlg.out]; rfl, B2⟩
section
variable {w0 w : World} {rp lp size : Nat} {g : Lg} {t : St} {D : Nat → Prop} {sa : Option Addr} {sc : Nat}
theorem rlsync_any (h : RLK w0 w rp lp size g t D sa sc) (hne : g.segs ≠ []) :
 Calls Tryz.prog 43 #[.pointer (some ⟨lp, 0, none⟩)] w fun e w' => e = .returned (.int .i64 (lgSync g t).1) ∧ RLv w0 w rp lp size (rlO D lp sa) g (lgSync g t).2 w' := by
 have c0 := h.at_.c0
 have hlt := h.at_.lt
 have hown := h.own
 have LA := Qh (fun x (hb : Below w.heap.size w x) => rlast_any (h.at_.on hb) hne)
 have H := Qh h
 have hsy : Hid (lgSync g t = t.sync (lgLast g)) := rfl
 have hsz := nmS_size (g.segs.getLastD 0)
 change ByteArray.size ⟨(lgLast g).toArray⟩ ≤ 11 at hsz
 clear h hne
 go_enter Tryz.func43, Tryz.ntmps43
 go_wp2_with fail
 refine wp_region_held_drew (S := fun x => x.cell? ⟨lp, 0, none⟩ = some (.pointer (some ⟨rp, 0, none⟩))) (by kernel_rfl) c0 (fun hHeld => ?_)
 refine qi 0 (by assumption) ?_
 iterate 5 (refine qk rfl (by kernel_rfl) (fun _ _ _ h => h) (by intro w hSw; (try dsimp only at hSw); go_simp; all_goals with_reducible rfl) (by (try simp only [Act.put, lz]); rfl) ?_)
 refine qo ?_
 refine qr 5 rfl (by kernel_rfl) (fun K hK => ?_)
 rw [if_pos (by rfl)]
 go_simp
 go_at_call 96
 refine (LA.out _ (Below.drew Qb)).mono ?_
 rintro e w2 ⟨rfl, hb2⟩
 have B2 : Below w.heap.size w w2 := below_drew_of hb2
 clear hb2
 have c02 := (B2.cell (p := ⟨lp, 0, none⟩) hlt).trans c0
 refine hK.out _ _ ?_ (fun hHeld => ?_)
 · exact c02
 clear hK K
 try simp only [Act.put, lz]
 refine qr 6 rfl (by kernel_rfl) (fun K hK => ?_)
 rw [if_pos (by rfl)]
 go_simp
 go_at_call 63
 refine ((H.out.on B2).rk.sync ⟨(lgLast g).toArray⟩).mono ?_
 rintro e w3 ⟨rfl, hm⟩
 have hm2 := (H.out.on B2).mv hm
 obtain ⟨D3, k3, b3, d3⟩ := hm
 refine hK.out _ _ ?_ (fun hHeld => ?_)
 · exact (b3.cell (b := lp) (o := 0) (Nat.lt_of_lt_of_le hlt B2.size) hown).trans c02
 clear hK K
 try simp only [Act.put, lz]
 refine qi 7 (by assumption) ?_
 refine qk rfl (by kernel_rfl) (fun _ _ _ h => h) (by intro w hSw; (try dsimp only at hSw); go_simp; all_goals with_reducible rfl) (by (try simp only [Act.put, lz]); rfl) ?_
 refine qo ?_
 refine wpAnyH_done (by kernel_rfl) ?_ _
 go_wp2
 go_ret
 exact ⟨by rw [hsy.out]; rfl, by rw [hsy.out]; exact RLv.then (But.of_below B2) (fun _ hk => .inl hk) hm2⟩
theorem rlnext_any (h : RLK w0 w rp lp size g t D sa sc) : Calls Tryz.prog 18 #[.pointer (some ⟨lp, 0, none⟩)] w fun e w' => e = .returned (.int .i64 g.next) ∧ w' = w := by
 have c3 := h.at_.c3
 clear h
 go_enter Tryz.func18, Tryz.ntmps18
 go_wp2
 go_ret
 exact ⟨rfl, rfl⟩
end
end
end Go.Proofs.YtamblmoedommfaaGreatDoor

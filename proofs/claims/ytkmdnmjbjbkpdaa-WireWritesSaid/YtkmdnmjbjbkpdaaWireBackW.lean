/- WireBack: the walk. -/
import Derived.Test.YtkmdnmjbjbkpdaaWrK
import Derived.Test.YtkmdnmjbjbkpdaaInts
namespace Go.Proofs.Ytkmdnmjbjbkpdaa
open Go.RowKit
open Wir

def encN (ks : List Int) : List Nat := ks.flatMap fun k => dg (cnt k)
theorem encN_snoc (ks : List Int) (k : Int) : encN (ks ++ [k]) = encN ks ++ dg (cnt k) := by simp [encN]
theorem encN_len (ks : List Int) (h : ∀ k ∈ ks, -9223372036854775808 ≤ k ∧ k ≤ 9223372036854775807) : (encN ks).length ≤ 10 * ks.length := by
  induction ks with
  | nil => simp [encN]
  | cons k ks ih =>
    have h1 := ih (fun x hx => h x (by simp [hx]))
    have h2 := dg_le (cnt_lt (h k (by simp)).1 (h k (by simp)).2)
    simp only [encN, List.flatMap_cons, List.length_append, List.length_cons] at *
    omega
theorem encN_byte (ks : List Int) : ∀ c ∈ encN ks, c < 256 := by
  intro c hc
  obtain ⟨k, _, h⟩ := List.mem_flatMap.1 hc
  exact dg_byte _ c h
theorem encN_cut (ks : List Int) (i : Nat) (h : i < ks.length) (rest : List Nat) : encN ks ++ rest = encN (ks.take i) ++ (dg (cnt ks[i]) ++ (encN (ks.drop (i + 1)) ++ rest)) := by
  have e : ks = ks.take i ++ ks[i] :: ks.drop (i + 1) := by rw [List.getElem_cons_drop, List.take_append_drop]
  have e2 : encN ks = encN (ks.take i) ++ (dg (cnt ks[i]) ++ encN (ks.drop (i + 1))) := by
    unfold encN
    conv => lhs; rw [e]
    rw [List.flatMap_append, List.flatMap_cons]
  rw [e2, List.append_assoc, List.append_assoc]
theorem encN_next (ks : List Int) (i : Nat) (h : i < ks.length) : encN (ks.take (i + 1)) = encN (ks.take i) ++ dg (cnt ks[i]) := by rw [List.take_succ_eq_append_getElem h, encN_snoc]
/-- What stands next is read. -/
theorem read_num (p rest : List Nat) (n : Int) (h1 : -9223372036854775808 ≤ n) (h2 : n ≤ 9223372036854775807) :
    (⟨p ++ (dg (cnt n) ++ rest), p.length, 0⟩ : RS).num = (n, ⟨p ++ (dg (cnt n) ++ rest), p.length + (dg (cnt n)).length, 0⟩) := by
  have := num_dg (cnt n) (cnt_lt h1 h2) rest
  unfold RS.num RS.told
  simp [this, unc_cnt]
theorem wi_text (rest : List Nat) (len : Nat) (hlen : len ≤ 3000) : wi 0 (len : Int) (dg (cnt (len : Int)) ++ rest) = ((len : Int), (dg (cnt (len : Int))).length, 0) := by
  have := num_dg (cnt (len : Int)) (cnt_lt (by omega) (by omega)) rest
  unfold wi
  rw [this, unc_cnt]
  simp only
  rw [if_neg (by simp), if_neg (by omega)]
theorem read_text (p t : List Nat) (len : Nat) (hl : t.length = len) (hlen : len ≤ 3000) :
    (⟨p ++ (dg (cnt (len : Int)) ++ t), p.length, 0⟩ : RS).text (len : Int) = (t, ⟨p ++ (dg (cnt (len : Int)) ++ t), p.length + ((dg (cnt (len : Int))).length + len), 0⟩) := by
  have hw := wi_text t len hlen
  have hx : tx (len : Int) (dg (cnt (len : Int)) ++ t) = (t, (dg (cnt (len : Int))).length + len, 0) := by
    unfold tx
    rw [hw]
    simp only
    rw [if_neg (by simp), if_neg (by simp; omega), List.drop_left, List.take_of_length_le (by simp; omega)]
    simp
  unfold RS.text RS.told
  simp [hx]
/-- A reader of fewer bytes: it has come as far, or they ended. -/
structure Cut (B : List Nat) (k n : Nat) (s : RS) : Prop where
  eq : s.bs = B.take k
  at_ : s.e = 13 ∨ (s.e = 0 ∧ s.n = n ∧ n ≤ k)
theorem told_bs {α : Type} (s : RS) (f : List Nat → α × Nat × Nat) (z : α) : (s.told f z).2.bs = s.bs := by
  unfold RS.told
  split
  · rfl
  split <;> rfl
theorem Cut.num {p rest : List Nat} {n : Int} {k : Nat} {s : RS} (h : Cut (p ++ (dg (cnt n) ++ rest)) k p.length s) (h1 : -9223372036854775808 ≤ n) (h2 : n ≤ 9223372036854775807) :
    Cut (p ++ (dg (cnt n) ++ rest)) k (p.length + (dg (cnt n)).length) s.num.2 := by
  refine ⟨(told_bs s _ _).trans h.eq, ?_⟩
  rcases h.at_ with he | ⟨he, hn, hk⟩
  · left
    unfold RS.num RS.told
    rw [if_pos (by omega)]
    exact he
  · have hd : s.bs.drop s.n = (dg (cnt n) ++ rest).take (k - p.length) := by
      rw [h.eq, hn, List.drop_take, List.drop_left]
    unfold RS.num RS.told
    rw [if_neg (by omega), hd]
    by_cases hs : (dg (cnt n)).length ≤ k - p.length
    · have e : (dg (cnt n) ++ rest).take (k - p.length) = dg (cnt n) ++ rest.take (k - p.length - (dg (cnt n)).length) := by rw [List.take_append, List.take_of_length_le hs]
      rw [e, num_dg (cnt n) (cnt_lt h1 h2)]
      right
      simp only
      rw [if_neg (by simp)]
      exact ⟨he, by rw [hn], by omega⟩
    · have e : (dg (cnt n) ++ rest).take (k - p.length) = (dg (cnt n)).take (k - p.length) := List.take_append_of_le_length (by omega)
      rw [e, num_cut (cnt n) (cnt_lt h1 h2) _ (by omega)]
      left
      simp
theorem Cut.text {p t : List Nat} {len k : Nat} {s : RS} (hl : t.length = len) (hlen : len ≤ 3000) (h : Cut (p ++ (dg (cnt (len : Int)) ++ t)) k p.length s) (hk : k < (p ++ (dg (cnt (len : Int)) ++ t)).length) :
    (s.text (len : Int)).2.end_ = 13 := by
  have key : (s.text (len : Int)).2.e = 13 := by
    rcases h.at_ with he | ⟨he, hn, hkn⟩
    · unfold RS.text RS.told
      rw [if_pos (by omega)]
      exact he
    · have hd : s.bs.drop s.n = (dg (cnt (len : Int)) ++ t).take (k - p.length) := by
        rw [h.eq, hn, List.drop_take, List.drop_left]
      simp only [List.length_append] at hk
      have hx : (tx (len : Int) ((dg (cnt (len : Int)) ++ t).take (k - p.length))).2.2 = 13 := by
        by_cases hs : (dg (cnt (len : Int))).length ≤ k - p.length
        · have e : (dg (cnt (len : Int)) ++ t).take (k - p.length) = dg (cnt (len : Int)) ++ t.take (k - p.length - (dg (cnt (len : Int))).length) := by rw [List.take_append, List.take_of_length_le hs]
          unfold tx
          rw [e, wi_text _ len hlen]
          simp only
          rw [if_neg (by simp), if_pos (by simp; omega)]
        · have e : (dg (cnt (len : Int)) ++ t).take (k - p.length) = (dg (cnt (len : Int))).take (k - p.length) := List.take_append_of_le_length (by omega)
          have hw : wi 0 (len : Int) ((dg (cnt (len : Int))).take (k - p.length)) = (0, 0, 13) := by
            unfold wi
            rw [num_cut _ (cnt_lt (by omega) (by omega)) _ (by omega)]
            simp
          unfold tx
          rw [e, hw]
          simp
      unfold RS.text RS.told
      rw [if_neg (by omega), hd, hx]
      simp
  unfold RS.end_
  rw [key]
  simp
/-- Two readers, side by side. -/
structure RR (w0 w : World) (g1 g2 : Nat) (O1 O2 : Nat → Prop) (s1 s2 : RS) : Prop where
  r1 : Rdr 56 w g1 s1 O1
  r2 : Rdr 56 w g2 s2 O2
  ge1 : ∀ k, O1 k → w0.heap.size ≤ k
  ge2 : ∀ k, O2 k → w0.heap.size ≤ k
  no : ∀ k, O1 k → ¬ O2 k
  below : Below w0.heap.size w0 w
section
variable {w0 w w' : World} {g1 g2 : Nat} {O1 O2 : Nat → Prop} {s1 s2 s' : RS}
theorem RR.on (h : RR w0 w g1 g2 O1 O2 s1 s2) (hb : Below w.heap.size w w') : RR w0 w' g1 g2 O1 O2 s1 s2 := ⟨h.r1.below hb, h.r2.below hb, h.ge1, h.ge2, h.no, h.below.trans (hb.mono h.below.size)⟩
theorem RR.one (h : RR w0 w g1 g2 O1 O2 s1 s2) (hr : Rdr 56 w' g1 s' O1) (hb : But O1 w w') : RR w0 w' g1 g2 O1 O2 s' s2 :=
  ⟨hr, h.r2.but hb (fun k h2 h1 => h.no k h1 h2), h.ge1, h.ge2, h.no, But.under h.below hb h.ge1⟩
theorem RR.two (h : RR w0 w g1 g2 O1 O2 s1 s2) (hr : Rdr 56 w' g2 s' O2) (hb : But O2 w w') : RR w0 w' g1 g2 O1 O2 s1 s' :=
  ⟨h.r1.but hb (fun k h1 h2 => h.no k h1 h2), hr, h.ge1, h.ge2, h.no, But.under h.below hb h.ge2⟩
end
theorem max2_any' (x y : Int) (w : World) :
    (Builtin.max_ #[3, 3] 3 #[.int .i64 x, .int .i64 y]).run Try.prog w = .ok (.int .i64 (max x y)) w := by
  have e1 : (if x < y then y else x) = max x y := by omega
  simp only [Builtin.max_, List.foldlM, Builtin.max2, Sem.run_bind, Sem.run_pure, Result.andThen_ok]
  rw [e1]
set_option linter.unusedSimpArgs false in
set_option maxRecDepth 100000 in
set_option maxHeartbeats 3200000 in
theorem wireBack_walk (ka : Option Addr) (kn kc : Nat) (ks : List Int) (a : Option Addr) (len cap : Nat) (t : List Nat) (cut : Nat) (hcut : cut < 65536) (w : World) (hkr : Row w w.heap.size ka kn kc 1 (intsC ks)) (hkl : ks.length = kn)
    (hu : ∀ k ∈ ks, -9223372036854775808 ≤ k ∧ k ≤ 9223372036854775807) (hs : Sl w w.heap.size a len cap t) :
    Calls Try.prog 5 #[.slice ka kn kc, .slice a len cap, .int .u16 (cut : Int)] w fun e w' => e = .returned (.bool true) ∧ Below w.heap.size w w' := by
  have HS := Lib.hid hs
  have HK := Lib.hid hkr
  have HU := Lib.hid hu
  have hl := hs.length
  clear hs hkr hu
  go_enter Try.func5, Try.ntmps5
  go_wp2_with fail
  refine (head_any _).mono ?_
  rintro e w1 ⟨rfl, hb1⟩
  have B1 := Lib.hid hb1
  clear hb1
  by_cases h3 : 300 < kn
  · have h3' : (300 : Int) < (kn : Int) := by omega
    go_wp2
    go_ret
    exact ⟨rfl, B1.out⟩
  have h3' : (kn : Int) ≤ 300 := by omega
  by_cases h4 : 3000 < len
  · have h4' : (3000 : Int) < (len : Int) := by omega
    go_wp2
    go_ret
    exact ⟨rfl, B1.out⟩
  have h4' : (len : Int) ≤ 3000 := by omega
  have W0 := Lib.hid (WK.new 41 w1)
  have hK1 := Lib.hid ((HK.out.below B1.out (Nat.le_refl _)).more B1.out.size)
  have HL := Lib.hid (encN_len ks HU.out)
  go_wp2_with fail
  generalize w1.alloc (.cells #[.slice none 0 0] 41) = w2 at W0 ⊢
  generalize w1.heap.size = p at W0 ⊢
  go_loopw [9] (fun i wr => ∃ k : Nat, k ≤ kn ∧ i = .int .i64 (k : Int) ∧ WK 41 w1 wr p (encN (ks.take k))) (fun i _ => kn - (intOf i).toNat)
  case atStart => exact ⟨0, Nat.zero_le _, rfl, by simpa [encN] using W0.out⟩
  case round =>
    obtain ⟨k, hk, rfl, hwk⟩ := hrel
    have W := Lib.hid hwk
    clear hwk W0
    by_cases hlt : k < kn
    · have hkm : k < ks.length := by omega
      have hkk := HU.out ks[k] (List.getElem_mem _)
      have hnx := Lib.hid (encN_next ks k hkm)
      have hlen1 : (encN (ks.take k)).length ≤ 1000000000 := by
        have h1 := encN_len (ks.take k) (fun x hx => HU.out x (List.mem_of_mem_take hx))
        have h2 : (ks.take k).length ≤ 300 := by rw [List.length_take]; omega
        omega
      have hrow : Row wr wr.heap.size ka kn kc 1 (intsC ks) := by obtain ⟨_, _, _, b⟩ := W.out; exact (hK1.out.below b (Nat.le_refl _)).more b.size
      obtain ⟨b, o, rfl, _, hc⟩ := hrow.at_ (by omega)
      have c1 := hc k (by omega)
      simp only [intsC] at c1
      rw [List.getD_eq_getElem?_getD, List.getElem?_eq_getElem hkm, Option.getD_some] at c1
      clear hc hrow
      have CW := Lib.hid (W.out.num ks[k] hkk.1 hkk.2 hlen1)
      generalize ks[k] = v at *
      go_wp2_with fail
      refine CW.out.mono ?_
      rintro e w3 ⟨rfl, k3⟩
      rw [← hnx.out] at k3
      have K3 := Lib.hid k3
      clear k3 CW c1
      go_wp2
      go_roundw
      case rel => exact ⟨k + 1, by omega, by go_num, K3.out⟩
      case measure => simp [intOf]; omega
    · have hkn : k = kn := by omega
      subst hkn
      rw [List.take_of_length_le (by omega)] at W
      have hs1 := Lib.hid ((HS.out.below B1.out (Nat.le_refl _)).more B1.out.size)
      have hE := HL.out
      have CT := Lib.hid (W.out.text a len cap t hs1.out (by omega) (by omega))
      have hdl := dg_le (cnt_lt (n := (len : Int)) (by omega) (by omega))
      have hdp := dg_pos (cnt (len : Int))
      have RT := Lib.hid (read_text (encN ks) t len hl (by omega))
      have XT := Lib.hid (fun c s => Cut.text (p := encN ks) (t := t) (len := len) (k := c) (s := s) hl (by omega))
      have RN := Lib.hid (fun (i : Nat) (hi : i < ks.length) => (encN_cut ks i hi (dg (cnt (len : Int)) ++ t)))
      obtain ⟨B, hB⟩ : ∃ B, B = encN ks ++ (dg (cnt (len : Int)) ++ t) := ⟨_, rfl⟩
      rw [← hB] at CT RT XT
      simp only [← hB] at RN
      have hBl : B.length = (encN ks).length + ((dg (cnt (len : Int))).length + len) := by rw [hB]; simp [hl]
      clear hB
      obtain ⟨n, hn⟩ : ∃ n, n = B.length := ⟨_, rfl⟩
      have hnl : n ≤ 7000 := by omega
      have hn1 : 1 ≤ n := by omega
      have Hb := Lib.hid hBl
      clear hBl hdl hdp hE
      go_wp2_with fail
      refine CT.out.mono ?_
      rintro e w3 ⟨rfl, k3⟩
      have K3 := Lib.hid k3
      clear k3 CT W
      go_wp2_with fail
      refine (K3.out.bytes (by omega)).mono ?_
      rintro e w4 ⟨ba, bc, rfl, s4, ⟨_, _, _, k4⟩, _, _⟩
      rw [← hn] at s4 ⊢
      have Hn := Lib.hid hn
      clear hn
      have B4 := Lib.hid (B1.out.trans (k4.mono B1.out.size))
      have S4 := Lib.hid s4
      have NR := Lib.hid (newReader_any ba n bc B w4 s4 (by omega))
      have hble := s4.le
      clear s4 k4 K3
      go_wp2_with fail
      refine NR.out.mono ?_
      rintro e w5 ⟨g1, O1, rfl, r5, b5, n5⟩
      have R5 := Lib.hid (And.intro r5 (And.intro (show ∀ k, O1 k → w.heap.size ≤ k from fun k hk => Nat.le_trans B4.out.size (n5 k hk)) (B4.out.trans (b5.mono B4.out.size))))
      have S5 := Lib.hid ((S4.out.below b5 (Nat.le_refl _)).more b5.size)
      clear r5 b5 n5 NR S4
      obtain ⟨c, hc⟩ : ∃ c, c = cut % n := ⟨_, rfl⟩
      have hcn : c < n := by rw [hc]; exact Nat.mod_lt _ (by omega)
      have m1 := fun (x : World) => max2_any' (n : Int) 1 x
      rw [show max (n : Int) 1 = (n : Int) from by omega] at m1
      have m2 := fun (x : World) => min_any (c : Int) (n : Int) x
      rw [show min (c : Int) (n : Int) = (c : Int) from by omega] at m2
      have hcm : (cut : Int) % (n : Int) = (c : Int) := by omega
      have hc63 : c ≤ 7000 := by omega
      have c5 := run_cut_to (P := Try.prog) 22 5 Try.underlying22 info_u8 ba n bc c (by omega)
      have NS := Lib.hid (newReader_any ba c bc (B.take c) w5 (S5.out.take (by omega)) (by omega))
      have Hc := Lib.hid hc
      clear hc
      go_wp2_with fail
      refine NS.out.mono ?_
      rintro e w6 ⟨g2, O2, rfl, r6, b6, n6⟩
      have K6 := Lib.hid (show RR w w6 g1 g2 O1 O2 ⟨B, 0, 0⟩ ⟨B.take c, 0, 0⟩ from ⟨R5.out.1.below b6, r6, R5.out.2.1, fun k hk => Nat.le_trans R5.out.2.2.size (n6 k hk), fun k h1 h2 => by have := R5.out.1.lt k h1; have := n6 k h2; omega, R5.out.2.2.trans (b6.mono R5.out.2.2.size)⟩)
      clear r6 b6 n6 NS R5 m1 m2 c5 hcm
      go_wp2_with fail
      have hkl' : ks.length = k := by omega
      go_loopw [14] (fun i wr => ∃ (j : Nat) (s2 : RS), j ≤ k ∧ i = .int .i64 (j : Int) ∧ RR w wr g1 g2 O1 O2 ⟨B, (encN (ks.take j)).length, 0⟩ s2 ∧ Cut B c (encN (ks.take j)).length s2) (fun i _ => k - (intOf i).toNat)
      case atStart => exact ⟨0, _, Nat.zero_le _, rfl, by simpa [encN] using K6.out, rfl, .inr ⟨rfl, by simp [encN], by simp [encN]⟩⟩
      case round =>
        obtain ⟨j, s2, hj, rfl, hrr, hct⟩ := hrel
        have K := Lib.hid hrr
        have CT := Lib.hid hct
        clear hrr hct K6
        by_cases hlt2 : j < k
        · have hjm : j < ks.length := by omega
          have hkk := HU.out ks[j] (List.getElem_mem _)
          have hnx := encN_next ks j hjm
          have hBj := RN.out j hjm
          have hrd := read_num (encN (ks.take j)) (encN (ks.drop (j + 1)) ++ (dg (cnt (len : Int)) ++ t)) ks[j] hkk.1 hkk.2
          have hcn2 := CT.out
          rw [hBj] at hcn2
          have hcn3 := hcn2.num hkk.1 hkk.2
          rw [← hBj] at hrd hcn3
          rw [← List.length_append, ← hnx] at hrd hcn3
          have C1 := Lib.hid (num_any K.out.r1)
          rw [hrd] at C1
          have CN := Lib.hid hcn3
          have hrow : Row wr wr.heap.size ka k kc 1 (intsC ks) := (HK.out.below K.out.below (Nat.le_refl _)).more K.out.below.size
          clear hrd hcn2 hcn3 hBj hnx hrow
          have HKR := Lib.hid (fun (x : World) (hx : Below w.heap.size w x) => (HK.out.below hx (Nat.le_refl _)).more hx.size)
          go_wp2_with fail
          refine C1.out.mono ?_
          rintro e w7 ⟨rfl, r7, b7⟩
          have K7 := Lib.hid (K.out.one r7 b7)
          clear r7 b7 C1 K
          obtain ⟨b, o, rfl, _, hcc⟩ := (HKR.out w7 K7.out.below).at_ (by omega)
          have c1 := hcc j (by omega)
          simp only [intsC] at c1
          rw [List.getD_eq_getElem?_getD, List.getElem?_eq_getElem hjm, Option.getD_some] at c1
          clear hcc
          have C2 := Lib.hid (num_any K7.out.r2)
          generalize ks[j] = v at *
          generalize s2.num = rr at C2 CN
          go_wp2_with fail
          refine C2.out.mono ?_
          rintro e w8 ⟨rfl, r8, b8⟩
          have K8 := Lib.hid (K7.out.two r8 b8)
          clear r8 b8 C2 K7 c1
          go_wp2
          go_roundw
          case rel => exact ⟨j + 1, _, by omega, by go_num, K8.out, CN.out⟩
          case measure => simp [intOf]; omega
        · have hjk : j = k := by omega
          subst hjk
          rw [List.take_of_length_le (by omega)] at K CT
          have C1 := Lib.hid (text_any K.out.r1 (len : Int))
          rw [RT.out] at C1
          have HE := Lib.hid (XT.out c s2 CT.out (by rw [← Hn.out]; exact hcn))
          go_wp2_with fail
          refine C1.out.mono ?_
          rintro e w7 ⟨xa, xc, rfl, sx, nx, r7, b7⟩
          have K7 := Lib.hid (K.out.one r7 b7)
          have X7 := Lib.hid (show Away w7 O2 xa len xc t from by rw [← hl]; exact Away.new sx nx (fun k hk => K.out.r2.lt k hk))
          clear r7 b7 C1 K sx nx
          rw [hl]
          have C2 := Lib.hid (text_any K7.out.r2 (len : Int))
          go_wp2_with fail
          refine C2.out.mono ?_
          rintro e w8 ⟨ya, yc, rfl, _, _, r8, b8⟩
          have K8 := Lib.hid (K7.out.two r8 b8)
          have X8 := Lib.hid (X7.out.but b8)
          clear r8 b8 C2 K7 X7
          have q1 := run_str (P := Try.prog) X8.out.1 22 5 9 Try.underlying22 Try.underlying5 Try.underlying9
          have q2 := run_str (P := Try.prog) ((HS.out.below K8.out.below (Nat.le_refl _)).more K8.out.below.size) 22 5 9 Try.underlying22 Try.underlying5 Try.underlying9
          have E1 := Lib.hid (end_any K8.out.r1)
          rw [show (RS.end_ ⟨B, (encN ks).length + ((dg (cnt (len : Int))).length + len), 0⟩) = 0 from by unfold RS.end_; rw [if_neg (by have := Hb.out; simp only; omega)]] at E1
          go_wp2_with fail
          refine E1.out.mono ?_
          rintro e w9 ⟨rfl, b9⟩
          have E2 := Lib.hid (end_any (K8.out.on b9).r2)
          rw [HE.out] at E2
          have K9 := Lib.hid (K8.out.on b9)
          clear b9 E1 q1 q2 X8 K8
          go_wp2_with fail
          refine E2.out.mono ?_
          rintro e wA ⟨rfl, bA⟩
          have KA := Lib.hid (K9.out.below.trans (bA.mono K9.out.below.size))
          clear bA E2
          go_wp2
          go_ret
          exact ⟨rfl, KA.out⟩
end Go.Proofs.Ytkmdnmjbjbkpdaa

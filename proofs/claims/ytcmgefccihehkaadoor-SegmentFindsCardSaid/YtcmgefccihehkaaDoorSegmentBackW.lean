/- SegmentBack: the walk. -/
import Derived.Test.YtcmgefccihehkaaDoorSegmentNamesW
import Derived.Test.YtcmgefccihehkaaDoorSgB
import Derived.Test.YtcmgefccihehkaaDoorSgG
namespace Go.Proofs.YtcmgefccihehkaaDoor
open Go.RowKit Go.Shelf
open Crc Frm

/-- What the walk keeps. -/
structure KR (w w' : World) (al : Option Addr) (k cl : Nat) (L : List Fr) : Prop where
  one : KL w w'
  fr : Frs w' w'.heap.size al k cl L
theorem KR.on {w w1 w2 : World} {al : Option Addr} {k cl : Nat} {L : List Fr} (h : KR w w1 al k cl L) (hb : Below w1.heap.size w1 w2) : KR w w2 al k cl L :=
  ⟨h.one.on hb, (h.fr.below hb (Nat.le_refl _)).below (Below.refl _ _) hb.size⟩
theorem Frs.bytes {w : World} {B : Nat} {a : Option Addr} {len cap : Nat} {fs : List Fr} (h : Frs w B a len cap fs) : ∀ f ∈ fs, ∀ c ∈ f.body, c < 256 := fun f hf => by
  obtain ⟨k, hk, rfl⟩ := List.getElem_of_mem hf
  have := h.length
  obtain ⟨b, o, _, _, hc⟩ := h.at_ (by omega)
  obtain ⟨ba, bc, _, _, _, s⟩ := hc k fs[k] (List.getElem?_eq_getElem hk)
  exact s.byte
theorem h_row (a : Option Addr) (len cap : Nat) (bss : List (List Nat)) (f0 : Nat) (hf0 : f0 < 1073741000) (w : World) (hs : Sls w w.heap.size a len cap bss) (h20 : len ≤ 20) :
    Calls Tryd.prog 24 #[.slice a len cap, .int .i64 (f0 : Int)] w fun e w' => ∃ al cl, e = .returned (.slice al len cl) ∧ Frs w' w'.heap.size al len cl (fsC f0 bss len) ∧ Below w.heap.size w w' :=
  (row_any a len cap bss f0 hf0 w hs h20).mono fun e w' h => by
    obtain ⟨al, cl, ts, rfl, hts, ho, _, hb⟩ := h
    have hl : ts.length = len := by rw [← fsC_len f0 bss len, ← hts, List.length_map]
    obtain ⟨a2, c2, hv, hf⟩ := ho.frs
    rw [hl, hts] at hf
    rw [hl] at hv
    injection hv with h1 h2 h3
    subst h1 h3
    exact ⟨al, cl, rfl, hf, hb⟩
theorem h_readrow {bs : List Nat} {f n k : Nat} {fs : List Fr} (hr : rd bs = (f, fs, n, 0)) (hk : fs.length = k) (r : Option Addr) (len cr : Nat) (w : World) (hs : Sl w w.heap.size r len cr bs) (hl : len ≤ 100000) : Calls Tryd.prog 12 #[.slice r len cr] w fun e w' => ∃ va vc, e = .returned (.tuple #[.int .i64 (f : Int), .slice va k vc, .int .i64 (n : Int), .int .i64 0]) ∧ Frs w' w'.heap.size va k vc fs ∧ Below w.heap.size w w' :=
  (segRead_of hr r len cr w hs hl).mono fun e w' h => by
    obtain ⟨va, vc, rfl, hf, hb⟩ := h
    subst hk
    exact ⟨va, vc, rfl, hf, hb⟩
theorem h_samefr (a : Option Addr) (k ca : Nat) (b : Option Addr) (cb : Nat) (fs : List Fr) (w : World) (ha : Frs w w.heap.size a k ca fs) (hb : Frs w w.heap.size b k cb fs) :
    Calls Tryd.prog 18 #[.slice a k ca, .slice b k cb] w fun e w' => e = .returned (.bool true) ∧ Below w.heap.size w w' :=
  (same_any a k ca fs b k cb fs w ha hb).mono fun e w' h => ⟨by rw [h.1]; exact ret_bool (decide_eq_true rfl), h.2⟩

set_option maxRecDepth 100000 in
set_option maxHeartbeats 6400000 in
theorem segmentBack_walk (n0 : Nat) (a : Option Addr) (len cap : Nat) (bss : List (List Nat)) (m : Option Addr) (lm cm : Nat) (ms : List Nat) (w : World) (hL : Laid w) (hs : Sls w w.heap.size a len cap bss) (hm : Sl w w.heap.size m lm cm ms) :
    Calls Tryd.prog 6 #[.int .u32 (n0 : Int), .slice a len cap, .slice m lm cm] w fun e w' => e = .returned (.bool true) ∧ Below w.heap.size w w' := by
  obtain ⟨q, hq⟩ : ∃ q, q = n0 % 1000000000 := ⟨_, rfl⟩
  have hqn : (n0 : Int) % 1000000000 = (q : Int) := by rw [hq]; omega
  have hq1 : q < 1000000000 := by omega
  obtain ⟨k, hk⟩ : ∃ k, k = min len 20 := ⟨_, rfl⟩
  have hmin : ∀ w, (Builtin.min_ #[3, 3] 3 #[.int .i64 (len : Int), .int .i64 20]).run Tryd.prog w = .ok (.int .i64 (k : Int)) w := by rw [hk]; exact min2_any len 20
  have hk20 : k ≤ 20 := by omega
  have cut := run_cut_ss a len cap k (by have := hs.le; omega)
  have HS := Lib.hid (And.intro (hs.take (k := k) (by omega)) hm)
  have hlm : ms.length = lm := hm.length
  clear hq hk hs hm
  go_enter Tryd.func6, Tryd.ntmps6
  go_upto_region 2 with (go_at_call 9; (with_reducible refine (shead_any _ hL).mono ?_); rintro e w1 ⟨rfl, hb⟩; have K1 := Lib.hid (KL.mk hb (hL.on hb)); clear hb)
  clear hL
  have RW := Lib.hid (h_row a k cap (bss.take k) q (by omega) w1 ((HS.out.1.below K1.out.below (Nat.le_refl _)).below (Below.refl _ _) K1.out.below.size) hk20)
  go_upto_region 4 with (go_at_call 24; (with_reducible refine RW.out.mono ?_); rintro e w2 ⟨al, cl, rfl, hf, hb⟩; have K2 := Lib.hid (KR.mk (K1.out.on hb) hf); clear hb hf)
  clear RW K1 hqn hmin cut
  have HF : Hid ((fsC q (bss.take k) k).length = k) := fsC_len _ _ _
  have hFr := fsC_right q (bss.take k) k (by omega)
  have hFj := fsC_row q (bss.take k) k
  have hFl := rows_fsC_le q (bss.take k) k
  generalize fsC q (bss.take k) k = L at K2 HF hFr hFj hFl
  have HR := Lib.hid (And.intro hFr hFj)
  clear hFr hFj
  go_wp2_with fail
  refine (great_any al k cl L w2 K2.out.fr hk20).mono ?_
  rintro e w3 ⟨g, rfl, hb⟩
  have K3 := Lib.hid (K2.out.on hb)
  clear hb K2
  cases g with
  | true =>
    go_wp2_with fail
    go_ret
    exact ⟨rfl, K3.out.one.below⟩
  | false =>
    by_cases h1 : lm ≤ 1
    · have h1' : decide ((1 : Int) < (lm : Int)) = false := by simp; omega
      go_upto_region 7 with (go_at_call 16; (with_reducible refine (segHead_yes q (by omega) _).mono ?_); rintro e w4 ⟨vb, rfl, hob, hb⟩; have H4 := Lib.hid (And.intro hob hb); clear hob hb)
      clear h1'
      go_wp2_with fail
      go_loopw [10, 11] (fun v i wx => ∃ j : Nat, j ≤ k ∧ i = .int .i64 (j : Int) ∧ OwnB wx w3.heap.size 5 v (head q ++ rows (L.take j)) ∧ Below w3.heap.size w3 wx) (fun _ i _ => k - (intOf i).toNat)
      case atStart => exact ⟨0, by omega, rfl, by rw [show L.take 0 = [] from rfl, show rows [] = [] from rfl, List.append_nil]; exact H4.out.1, H4.out.2⟩
      case round =>
        obtain ⟨j, hj, rfl, hov, hB⟩ := hrel
        by_cases hlt : j < k
        · have hLk := HF.out
          obtain ⟨b, o, rfl, hb, hc⟩ := (K3.out.fr.below hB (Nat.le_refl _)).at_ (by omega)
          have hgj : L[j]? = some L[j] := List.getElem?_eq_getElem (by omega)
          obtain ⟨ba, bc, x0, x1, x2, s1⟩ := hc j L[j] hgj
          have hfr := HR.out.1 L[j] (List.getElem_mem _)
          have htk : rows (L.take (j + 1)) = rows (L.take j) ++ raw L[j] := by rw [List.take_add_one, hgj]; exact rows_snoc _ _
          have hrj : (rows (L.take j)).length ≤ (rows L).length := by
            conv => rhs; rw [← List.take_append_drop j L]
            unfold rows
            rw [List.flatMap_append, List.length_append]
            omega
          have PU := rput_any L[j] ba bc wr (s1.more hB.size)
          rw [show put L[j] = raw L[j] from by unfold put; rw [if_pos hfr]] at PU
          have hby := raw_byte L[j] s1.byte
          have hrl := raw_len L[j]
          have hb18 := hfr.2.2.2.2
          have e0 : ∃ ty, ty = L[j].ty := ⟨_, rfl⟩
          generalize L[j] = f at x0 x1 x2 PU hby hrl hb18 htk
          obtain ⟨lf, hlf⟩ : ∃ l, l = (raw f).length := ⟨_, rfl⟩
          have hl11 : lf ≤ 1811 := by omega
          have hlen : (head q ++ rows (L.take j)).length ≤ 18232 := by rw [List.length_append, head_len]; omega
          have PU := Lib.hid PU
          have HB := Lib.hid (And.intro hov (And.intro hB (And.intro htk (And.intro hby hlf))))
          clear hc hgj s1 hfr hov hB htk hby hlf hrl hb18 e0 hrj hLk
          go_wp2_with (first
            | (go_at_call 26; refine PU.out.mono ?_; rintro e w5 ⟨vp, rfl, hop, hb5⟩; obtain ⟨ap, cp, hvp, hsp⟩ := hop.sl HB.out.2.2.2.1; rw [← HB.out.2.2.2.2] at hvp hsp; subst hvp; have HC := Lib.hid (And.intro (HB.out.1.below hb5) (And.intro (HB.out.2.1.trans (hb5.mono HB.out.2.1.size)) hsp)); clear hop hb5 hsp)
            | (at_builtin; refine wpList_append_sl rfl (.tmp 43) (.tmp 48) _ rfl w3.heap.size _ Tryd.underlying22 info_u8 u10 _ rfl HC.out.1 _ ap lf cp (raw f) rfl HC.out.2.2 (by omega) HC.out.2.1.size ?_; intro v6 w6 ho6 hg6 _; have HD := Lib.hid (And.intro ho6 (HC.out.2.1.grown hg6 HC.out.2.1.size (fun k hk => (HC.out.1.at_base hk).1))); clear ho6 hg6))
          refine ⟨⟨j + 1, by omega, by go_num, ?_, HD.out.2⟩, by simp [intOf]; omega⟩
          have hd := HD.out.1
          rw [List.append_assoc, ← HB.out.2.2.1] at hd
          exact hd
        · have hjk : j = k := by omega
          subst hjk
          rw [List.take_of_length_le (by rw [HF.out]; exact Nat.le_refl _)] at hov
          have hby : ∀ c ∈ head q ++ rows L, c < 256 := fun c hc => by
            rcases List.mem_append.1 hc with h | h
            · exact head_byte q c h
            · exact rows_byte L K3.out.fr.bytes c h
          obtain ⟨LB, hLB⟩ : ∃ l, l = 12 + (rows L).length := ⟨_, rfl⟩
          have hLB2 : (head q ++ rows L).length = LB := by rw [List.length_append, head_len, hLB]
          have hrd := rd_head q (by omega) L ms HR.out.1 HR.out.2 (by omega)
          rw [← hLB] at hrd
          obtain ⟨vb, cb, hv, hsb⟩ := hov.sl hby
          rw [hLB2] at hv hsb
          subst hv
          have K4 := Lib.hid (And.intro (K3.out.on hB) hsb)
          have hm4 := HS.out.2.below K4.out.1.one.below (Nat.le_refl _)
          have hown0 : OwnB (wr.alloc (.cells #[] 5)) wr.heap.size 5 (.slice (some ⟨wr.heap.size, 0, none⟩) 0 0) [] := OwnB.lit _ [] (Nat.le_refl _) (by decide)
          have hs2 := hsb.below ((Below.refl _ wr).alloc (Nat.le_refl _) (.cells #[] 5)) (Nat.le_refl _)
          have HO := Lib.hid (And.intro hown0 (And.intro hs2 (And.intro hm4 (And.intro hby (And.intro hLB2 hrd)))))
          have hLB3 : LB ≤ 18232 := by omega
          have HF2 := HF
          clear hov hB hby hLB hLB2 hrd hsb hm4 hown0 hs2 HF HR K3 H4 hFl
          go_upto_region 12 with (first
            | (at_builtin; refine wpList_append_sl rfl (.tmp 51) (.tmp 52) _ rfl wr.heap.size _ Tryd.underlying22 info_u8 (.slice (some ⟨wr.heap.size, 0, none⟩) 0 0) [] rfl HO.out.1 _ vb LB cb (head q ++ rows L) rfl HO.out.2.1 (by simp; omega) (by simp) ?_; intro v5 w5 ho1 hg1 hat1; have HX := Lib.hid (And.intro ho1 (((Below.refl _ wr).alloc (Nat.le_refl _) _).grown hg1 (by simp) (fun k hk => by simp [Value.ownBlock] at hk; omega))); clear ho1 hg1 hat1)
            | (at_builtin; refine wpList_append_sl rfl (.tmp 53) (.tmp 54) _ rfl wr.heap.size _ Tryd.underlying22 info_u8 v5 _ rfl HX.out.1 _ m lm cm ms rfl (HO.out.2.2.1.below (HX.out.2.mono K4.out.1.one.below.size) (Nat.le_refl _)) (by rw [List.nil_append, HO.out.2.2.2.2.1]; omega) HX.out.2.size ?_; intro v6 w6 ho4 hg4 _; have HX4 := Lib.hid (And.intro ho4 (HX.out.2.grown hg4 HX.out.2.size (fun k hk => (HX.out.1.at_base hk).1))); clear ho4 hg4; have hs6 := HX4.out.1.sl (fun c hc => by (rw [List.nil_append] at hc; rcases List.mem_append.1 hc with h | h; exact HO.out.2.2.2.1 c h; exact HS.out.2.byte c h)); obtain ⟨r, cr, hv6, hs6⟩ := hs6; rw [List.nil_append, List.length_append, HO.out.2.2.2.2.1, hlm] at hv6 hs6; subst hv6; have RD := Lib.hid (h_readrow HO.out.2.2.2.2.2 HF2.out r (LB + lm) cr w6 hs6 (by omega)); clear hs6)
            | (go_at_call 12; (with_reducible refine RD.out.mono ?_); rintro e w7 ⟨va, vc, rfl, hf, hb⟩; have K7 := Lib.hid (And.intro ((K4.out.1.on (HX4.out.2.trans (hb.mono HX4.out.2.size)))) hf); clear hb hf))
          have SM := Lib.hid (h_samefr va j vc al cl L w7 K7.out.2 K7.out.1.fr)
          go_wp2_with (go_at_call 18; (with_reducible refine SM.out.mono ?_); rintro e w8 ⟨rfl, hb⟩; have K8 := Lib.hid (K7.out.1.on hb); clear hb)
          go_ret
          exact ⟨rfl, K8.out.one.below⟩
    · have h1' : decide ((1 : Int) < (lm : Int)) = true := by simp; omega
      go_wp2_with fail
      go_ret
      exact ⟨rfl, K3.out.one.below⟩
end Go.Proofs.YtcmgefccihehkaaDoor

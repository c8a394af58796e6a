/- SegmentIndex: the walk. -/
import Derived.Test.YtcmgefccihehkaaDoorSegmentBackW
import Derived.Test.YtcmgefccihehkaaDoorSgY
import Derived.Test.YtcmgefccihehkaaDoorFrK
namespace Go.Proofs.YtcmgefccihehkaaDoor
open Go.RowKit Go.Shelf
open Crc Frm

theorem max2_zero (x : Nat) (w : World) :
    (Builtin.max_ #[3, 3] 3 #[.int .i64 (x : Int), .int .i64 0]).run Tryd.prog w = .ok (.int .i64 (x : Int)) w := by
  have e1 : (if (x : Int) < 0 then (0 : Int) else (x : Int)) = (x : Int) := by split <;> omega
  simp only [Builtin.max_, List.foldlM, Builtin.max2, Sem.run_bind, Sem.run_pure, Result.andThen_ok]
  rw [e1]
theorem run_one_fr (b o len cap j : Nat) (hj : j + 1 ≤ cap) (w : World) :
    (Instr.slice 26 (.slice (some ⟨b, o, none⟩) len cap) (some (.int .i64 (j : Int))) (some (.int .i64 ((j : Int) + 1))) none).run Tryd.prog w = .ok (.slice (some ⟨b, o + j * 3, none⟩) 1 (cap - j)) w := by
  obtain ⟨i, hi, _, hz1, _⟩ := info_parts info_frame
  have hs : (sizeOf 36).run Tryd.prog w = .ok 3 w := by simp [sizeOf, typeInfo, hi, hz1]
  have ht' : Tryd.prog.underlying 26 = some (.slice (Tryd.prog.elem 26)) := by simp [Program.elem, Tryd.underlying26]
  have he : Tryd.prog.elem 26 = 36 := by simp [Program.elem, Tryd.underlying26]
  rw [show (j : Int) + 1 = ((j + 1 : Nat) : Int) from by omega, run_slice_lh w 26 _ _ _ ht' .i64 .i64 _ _ (by omega) (by omega) (by omega), he, hs]
  have hc : ¬ cap = j := by omega
  simp [Result.andThen, sliced, Addr.add, hc]
theorem Frs.mid1 {w : World} {B b o len cap : Nat} {fs : List Fr} (h : Frs w B (some ⟨b, o, none⟩) len cap fs) {j : Nat} {f : Fr} (hf : fs[j]? = some f) : Frs w B (some ⟨b, o + j * 3, none⟩) 1 (cap - j) [f] :=
  ⟨rfl, by have := (List.getElem?_eq_some_iff.1 hf).1; have := h.length; have := h.le; omega, by have := h.max; omega, fun _ => by
    have hl := (List.getElem?_eq_some_iff.1 hf).1
    have h2 := h.length
    obtain ⟨b', o', e, hlt, hc⟩ := h.at_ (by omega)
    injection e with e
    injection e with e1 e2
    subst e1 e2
    refine ⟨b, o + j * 3, rfl, hlt, fun k g hg => ?_⟩
    cases k with
    | zero =>
      simp at hg
      subst hg
      simpa using hc j f hf
    | succ k => simp at hg⟩

theorem Spts.none_ (w : World) : Spts w w.heap.size none 0 0 [] := ⟨rfl, Nat.le_refl _, by decide, fun h => absurd h (by omega)⟩
/-- What the walk keeps. -/
structure IK (w w' : World) (al : Option Addr) (k cl : Nat) (L : List Fr) (vb : Option Addr) (LB cb : Nat) (B : List Nat) (x : Option Addr) (N xc : Nat) (X : List (Int × Int)) : Prop where
  one : KR w w' al k cl L
  bs : Sl w' w'.heap.size vb LB cb B
  ixs : Spts w' w'.heap.size x N xc X
theorem IK.on {w w1 w2 : World} {al : Option Addr} {k cl : Nat} {L : List Fr} {vb : Option Addr} {LB cb : Nat} {B : List Nat} {x : Option Addr} {N xc : Nat} {X : List (Int × Int)} (h : IK w w1 al k cl L vb LB cb B x N xc X) (hb : Below w1.heap.size w1 w2) : IK w w2 al k cl L vb LB cb B x N xc X :=
  ⟨h.one.on hb, (h.bs.below hb (Nat.le_refl _)).more hb.size, (h.ixs.below hb (Nat.le_refl _)).more hb.size⟩
theorem IK.ix {w w1 : World} {al : Option Addr} {k cl : Nat} {L : List Fr} {vb : Option Addr} {LB cb : Nat} {B : List Nat} {x : Option Addr} {N xc : Nat} {X : List (Int × Int)} (h : IK w w1 al k cl L vb LB cb B x N xc X) {x' : Option Addr} {N' xc' : Nat} {X' : List (Int × Int)} (hx : Spts w1 w1.heap.size x' N' xc' X') : IK w w1 al k cl L vb LB cb B x' N' xc' X' :=
  ⟨h.one, h.bs, hx⟩
theorem get_at (q : Nat) (L : List Fr) (p : Nat) (f : Fr) (hr : ∀ f ∈ L, f.right) (hf : L[p]? = some f) : get ((head q ++ rows L).drop (12 + ends L p)) = (f, f.body.length + 11, 0) := by
  have e : head q ++ rows L = (head q ++ rows (L.take p)) ++ rows (L.drop p) := by
    rw [List.append_assoc]
    congr 1
    unfold rows
    rw [← List.flatMap_append, List.take_append_drop]
  have el : (head q ++ rows (L.take p)).length = 12 + ends L p := by rw [List.length_append, head_len]; rfl
  have hl := (List.getElem?_eq_some_iff.1 hf).1
  have hd : L.drop p = f :: L.drop (p + 1) := by
    rw [List.drop_eq_getElem_cons hl]
    rw [List.getElem?_eq_getElem hl] at hf
    injection hf with hf
    rw [hf]
  rw [e, ← el, List.drop_left, hd, rows_cons]
  exact get_raw f (hr f (List.mem_of_getElem? hf)) _
theorem h_find_yes {B : List Nat} {X : List (Int × Int)} {seq : Int} {f : Fr} {LB : Nat} (hR : ∀ at_ is, Bg X seq at_ is → fnd (if is = true ∧ 0 ≤ at_ ∧ at_ ≤ (B.length : Int) then tolds B at_.toNat else []) seq = some f) (vb : Option Addr) (LB' cb : Nat) (_ : LB' = LB) (x : Option Addr) (N xc : Nat) (hN : N ≤ 100000) (w : World) (hs : Sl w w.heap.size vb LB' cb B) (hx : Spts w w.heap.size x N xc X) :
    Calls Tryd.prog 19 #[.slice vb LB' cb, .slice x N xc, .int .i64 seq] w fun e w' => ∃ ba bc, e = .returned (.tuple #[.agg #[.int .i64 f.ty, .int .i64 f.seq, .slice ba f.body.length bc], .bool true]) ∧ Sl w' w'.heap.size ba f.body.length bc f.body ∧ Below w.heap.size w w' :=
  (callsIn_wide.1 (find_in Fence.wide rfl 12 (Nat.le_refl _) vb LB' cb B x N xc X hN seq w hs hx)).mono fun e w' h => by
    obtain ⟨at_, is, hB, hF⟩ := h
    obtain ⟨ba, bc, he, hsl, hb⟩ := hF
    rw [hR at_ is hB] at he hsl
    exact ⟨ba, bc, he, hsl, hb⟩
theorem h_find_no {B : List Nat} {X : List (Int × Int)} {seq : Int} {LB : Nat} (hR : ∀ at_ is, Bg X seq at_ is → fnd (if is = true ∧ 0 ≤ at_ ∧ at_ ≤ (B.length : Int) then tolds B at_.toNat else []) seq = none) (vb : Option Addr) (LB' cb : Nat) (_ : LB' = LB) (x : Option Addr) (N xc : Nat) (hN : N ≤ 100000) (w : World) (hs : Sl w w.heap.size vb LB' cb B) (hx : Spts w w.heap.size x N xc X) :
    Calls Tryd.prog 19 #[.slice vb LB' cb, .slice x N xc, .int .i64 seq] w fun e w' => ∃ ba bc, e = .returned (.tuple #[.agg #[.int .i64 0, .int .i64 0, .slice ba 0 bc], .bool false]) ∧ Below w.heap.size w w' :=
  (callsIn_wide.1 (find_in Fence.wide rfl 12 (Nat.le_refl _) vb LB' cb B x N xc X hN seq w hs hx)).mono fun e w' h => by
    obtain ⟨at_, is, hB, hF⟩ := h
    obtain ⟨ba, bc, he, hsl, hb⟩ := hF
    rw [hR at_ is hB] at he
    exact ⟨ba, bc, he, hb⟩
/-- What stays so. -/
structure IP (q k ev LB N : Nat) (L : List Fr) : Prop where
  len : L.length = k
  right : ∀ f ∈ L, f.right
  row : ∀ (j : Nat) (f : Fr), L[j]? = some f → f.seq = (q : Int) + (j : Int)
  lb : LB = (head q ++ rows L).length
  n : N = (own_ix L ev).length
theorem h_idxn {B : List Nat} {ev N : Nat} {X : List (Int × Int)} (h : idx B (ev : Int) = X) (hN : N = X.length) (vb : Option Addr) (LB cb : Nat) (hev : ev ≤ 1000) (w : World) (hs : Sl w w.heap.size vb LB cb B) (hl : LB ≤ 100000) : Calls Tryd.prog 22 #[.slice vb LB cb, .int .i64 (ev : Int)] w fun e w' => ∃ x xc, e = .returned (.slice x N xc) ∧ Spts w' w'.heap.size x N xc X ∧ Below w.heap.size w w' :=
  (index_any vb LB cb B ev (by omega) w hs hl).mono fun e w' h2 => by
    obtain ⟨v, rfl, ho, hb⟩ := h2
    rw [h] at ho
    subst hN
    obtain ⟨x, xc, rfl, hx⟩ := ho.spts
    exact ⟨x, xc, rfl, hx, hb⟩

set_option linter.unusedSimpArgs false in
set_option maxRecDepth 100000 in
set_option maxHeartbeats 6400000 in
theorem segmentIndex_walk (q : Nat) (hq1 : q < 65536) (a : Option Addr) (len cap : Nat) (bss : List (List Nat)) (ev0 : Nat) (hev0 : ev0 < 256) (w : World) (hL : Laid w) (hs : Sls w w.heap.size a len cap bss) :
    Calls Tryd.prog 7 #[.int .u16 (q : Int), .slice a len cap, .int .u8 (ev0 : Int)] w fun e w' => e = .returned (.bool true) ∧ Below w.heap.size w w' := by
  obtain ⟨ev, hev⟩ : ∃ ev, ev = 1 + ev0 % 7 := ⟨_, rfl⟩
  have hvn : (1 : Int) + (ev0 : Int) % 7 = (ev : Int) := by rw [hev]; omega
  have hv1 : 1 ≤ ev := by omega
  have hv7 : ev ≤ 7 := by omega
  obtain ⟨k, hk⟩ : ∃ k, k = min len 20 := ⟨_, rfl⟩
  have hmin : ∀ w, (Builtin.min_ #[3, 3] 3 #[.int .i64 (len : Int), .int .i64 20]).run Tryd.prog w = .ok (.int .i64 (k : Int)) w := by rw [hk]; exact min2_any len 20
  have hk20 : k ≤ 20 := by omega
  have cut := run_cut_ss a len cap k (by have := hs.le; omega)
  have HS := Lib.hid (hs.take (k := k) (by omega))
  have HV := Lib.hid hvn
  clear hk hs hev hvn
  go_enter Tryd.func7, Tryd.ntmps7
  go_upto_region 2 with (go_at_call 9; (with_reducible refine (shead_any _ hL).mono ?_); rintro e w1 ⟨rfl, hb⟩; have K1 := Lib.hid (KL.mk hb (hL.on hb)); clear hb)
  clear hL
  have RW := Lib.hid (h_row a k cap (bss.take k) q (by omega) w1 ((HS.out.below K1.out.below (Nat.le_refl _)).below (Below.refl _ _) K1.out.below.size) hk20)
  go_upto_region 3 with (go_at_call 24; (with_reducible refine RW.out.mono ?_); rintro e w2 ⟨al, cl, rfl, hf, hb⟩; have K2 := Lib.hid (KR.mk (K1.out.on hb) hf); clear hb hf)
  clear RW K1 hmin cut
  have HF : Hid ((fsC q (bss.take k) k).length = k) := fsC_len _ _ _
  have hFr := fsC_right q (bss.take k) k (by omega)
  have hFj := fsC_row q (bss.take k) k
  have hFl := rows_fsC_le q (bss.take k) k
  generalize fsC q (bss.take k) k = L at K2 HF hFr hFj hFl
  have HR := Lib.hid (And.intro hFr hFj)
  clear hFr hFj
  go_upto_region 4 with (go_at_call 16; (with_reducible refine (segHead_yes q (by omega) _).mono ?_); rintro e w3 ⟨vb, rfl, hob, hb⟩; have H3 := Lib.hid (And.intro hob hb); have K3 := Lib.hid (K2.out.on hb); clear hob hb)
  go_wp2_with fail
  refine (great_any al k cl L w3 K3.out.fr hk20).mono ?_
  rintro e wC ⟨g, rfl, hb⟩
  have H4 := Lib.hid (And.intro (H3.out.1.below hb) (H3.out.2.trans (hb.mono H3.out.2.size)))
  have KC := Lib.hid (K3.out.on hb)
  clear hb H3 K3
  obtain ⟨wB, hwB⟩ : ∃ wB, wB = w2 := ⟨_, rfl⟩
  rw [← hwB] at K2 H4
  clear hwB
  have K3 := K2
  clear K2
  cases g with
  | true =>
    go_wp2_with fail
    go_ret
    exact ⟨rfl, KC.out.one.below⟩
  | false =>
    go_wp2_with fail
    go_loopw [9, 10] (fun v i wx => ∃ j : Nat, j ≤ k ∧ i = .int .i64 (j : Int) ∧ OwnB wx wB.heap.size 5 v (head q ++ rows (L.take j)) ∧ Below wB.heap.size wB wx) (fun _ i _ => k - (intOf i).toNat)
    case atStart => exact ⟨0, by omega, rfl, by rw [show L.take 0 = [] from rfl, show rows [] = [] from rfl, List.append_nil]; exact H4.out.1, H4.out.2⟩
    case round =>
      obtain ⟨j, hj, rfl, hov, hB⟩ := hrel
      by_cases hlt : j < k
      · have hLk := HF.out
        obtain ⟨b, o, rfl, hb, hc⟩ := (K3.out.fr.below hB (Nat.le_refl _)).at_ (by omega)
        have hgj : L[j]? = some L[j] := List.getElem?_eq_getElem (by omega)
        obtain ⟨ba, bc, x0, x1, x2, s1⟩ := hc j L[j] hgj
        have hfr := HR.out.1 L[j] (List.getElem_mem _)
        have htk : rows (L.take (j + 1)) = rows (L.take j) ++ raw L[j] := by rw [List.take_add_one, hgj]; exact rows_snoc _ _
        have hrj : (rows (L.take j)).length ≤ (rows L).length := by
          conv => rhs; rw [← List.take_append_drop j L]
          unfold rows
          rw [List.flatMap_append, List.length_append]
          omega
        have PU := rput_any L[j] ba bc wr (s1.more hB.size)
        rw [show put L[j] = raw L[j] from by unfold put; rw [if_pos hfr]] at PU
        have hby := raw_byte L[j] s1.byte
        have hrl := raw_len L[j]
        have hb18 := hfr.2.2.2.2
        have e0 : ∃ ty, ty = L[j].ty := ⟨_, rfl⟩
        generalize L[j] = f at x0 x1 x2 PU hby hrl hb18 htk
        obtain ⟨lf, hlf⟩ : ∃ l, l = (raw f).length := ⟨_, rfl⟩
        have hl11 : lf ≤ 1811 := by omega
        have hlen : (head q ++ rows (L.take j)).length ≤ 18232 := by rw [List.length_append, head_len]; omega
        have PU := Lib.hid PU
        have HB := Lib.hid (And.intro hov (And.intro hB (And.intro htk (And.intro hby hlf))))
        clear hc hgj s1 hfr hov hB htk hby hlf hrl hb18 e0 hrj hLk
        go_wp2_with (first
          | (go_at_call 26; refine PU.out.mono ?_; rintro e w5 ⟨vp, rfl, hop, hb5⟩; obtain ⟨ap, cp, hvp, hsp⟩ := hop.sl HB.out.2.2.2.1; rw [← HB.out.2.2.2.2] at hvp hsp; subst hvp; have HC := Lib.hid (And.intro (HB.out.1.below hb5) (And.intro (HB.out.2.1.trans (hb5.mono HB.out.2.1.size)) hsp)); clear hop hb5 hsp)
          | (at_builtin; refine wpList_append_sl rfl (.tmp 41) (.tmp 46) _ rfl wB.heap.size _ Tryd.underlying22 info_u8 u9 _ rfl HC.out.1 _ ap lf cp (raw f) rfl HC.out.2.2 (by omega) HC.out.2.1.size ?_; intro v6 w6 ho6 hg6 _; have HD := Lib.hid (And.intro ho6 (HC.out.2.1.grown hg6 HC.out.2.1.size (fun k hk => (HC.out.1.at_base hk).1))); clear ho6 hg6))
        refine ⟨⟨j + 1, by omega, by go_num, ?_, HD.out.2⟩, by simp [intOf]; omega⟩
        have hd := HD.out.1
        rw [List.append_assoc, ← HB.out.2.2.1] at hd
        exact hd
      · have hjk : j = k := by omega
        subst hjk
        rw [List.take_of_length_le (by rw [HF.out]; exact Nat.le_refl _)] at hov
        have hby : ∀ c ∈ head q ++ rows L, c < 256 := fun c hc => by
          rcases List.mem_append.1 hc with h | h
          · exact head_byte q c h
          · exact rows_byte L K3.out.fr.bytes c h
        obtain ⟨LB, hLB⟩ : ∃ l, l = (head q ++ rows L).length := ⟨_, rfl⟩
        have hLB1 : LB ≤ 18232 := by rw [hLB, List.length_append, head_len]; omega
        obtain ⟨vb, cb, hv, hsb⟩ := hov.sl hby
        rw [← hLB] at hv hsb
        subst hv
        obtain ⟨N, hN⟩ : ∃ N, N = (own_ix L ev).length := ⟨_, rfl⟩
        have hN1 := own_ix_len L ev (by omega)
        rw [← hN, HF.out] at hN1
        have hNq : (j + ev - 1 : Nat) / ev = N := hN1.symm
        have hix := idx_row q (by omega) L ev (by omega) HR.out.1 HR.out.2
        have K4 := Lib.hid (IK.mk (K3.out.on hB) hsb (Spts.none_ wr))
        have HP := Lib.hid (IP.mk HF.out HR.out.1 HR.out.2 hLB hN)
        have IX := Lib.hid (h_idxn hix hN vb LB cb (by omega) wr hsb (by omega))
        have hve := HV.out
        clear hov hB hby hLB hsb hN hN1 hix HF HR K3 H4 hFl KC
        go_upto_region 12 with (go_at_call 22; (with_reducible refine IX.out.mono ?_); rintro e w5 ⟨x, xc, rfl, hx, hb⟩; have K5 := Lib.hid ((K4.out.on hb).ix hx); clear hx hb)
        have hNt : ((N : Int) != ((j : Int) + (ev : Int) - 1) / (ev : Int)) = false := by
          have e : ((j : Int) + (ev : Int) - 1) / (ev : Int) = (N : Int) := by
            rw [show (j : Int) + (ev : Int) - 1 = ((j + ev - 1 : Nat) : Int) from by omega, ← Int.natCast_ediv, hNq]
          rw [e]
          simp
        have hN20 := hNq
        clear IX K4 hNq hve
        have hNb : N ≤ 26 := by
          have := Nat.div_le_self (j + ev - 1) ev
          omega
        clear hN20
        go_wp2_with fail
        clear hNt
        go_loopw [13] (fun i wx => ∃ c : Nat, c ≤ N ∧ i = .int .i64 (c : Int) ∧ IK w wx al j cl L vb LB cb (head q ++ rows L) x N xc (own_ix L ev)) (fun i _ => N - (intOf i).toNat)
        case atStart => exact ⟨0, by omega, rfl, K5.out⟩
        case round =>
          obtain ⟨c, hc, rfl, hK⟩ := hrel
          by_cases hlt : c < N
          · have hcl' : c < (own_ix L ev).length := by rw [← HP.out.n]; exact hlt
            have hX : (own_ix L ev)[c]? = some (own_ix L ev)[c] := List.getElem?_eq_getElem hcl'
            have hX2 := hX
            rw [own_ix_get L ev c (by omega)] at hX2
            obtain ⟨f, hf, hfe⟩ := Option.map_eq_some_iff.1 hX2
            rw [← hfe] at hX
            obtain ⟨p, hp⟩ : ∃ p, p = c * ev := ⟨_, rfl⟩
            have hpi : (c : Int) * (ev : Int) = (p : Int) := by rw [hp]; push_cast; rfl
            rw [← hp] at hX hf
            have hpj : p < j := by have := (List.getElem?_eq_some_iff.1 hf).1; have := HP.out.len; omega
            obtain ⟨xb, xo, rfl, hxb, hcc⟩ := hK.ixs.at_ (by omega)
            obtain ⟨y0, y1⟩ := hcc c _ hX
            obtain ⟨fb, fo, rfl, hfb, _⟩ := hK.one.fr.at_ (by omega)
            obtain ⟨at_, hat⟩ : ∃ at_, at_ = 12 + ends L p := ⟨_, rfl⟩
            simp only at y0 y1
            rw [← hat] at y1
            have hle : at_ ≤ LB := by
              have := ends_le L p
              rw [HP.out.lb, List.length_append, head_len]; omega
            have hget := get_at q L p f HP.out.right hf
            rw [← hat] at hget
            have hmax := max2_zero at_
            have hmin : ∀ w, (Builtin.min_ #[3, 3] 3 #[.int .i64 (at_ : Int), .int .i64 (LB : Int)]).run Tryd.prog w = .ok (.int .i64 (at_ : Int)) w := fun w => by
              have := min2_any at_ LB w
              rwa [Nat.min_eq_left hle] at this
            have hcle := hK.bs.le
            have cutf : ∀ w, (Instr.slice 22 (.slice vb LB cb) (some (.int .i64 (at_ : Int))) none none).run Tryd.prog w = .ok (.slice (fromA vb cb at_) (LB - at_) (cb - at_)) w := run_cut_from (P := Tryd.prog) 22 5 Tryd.underlying22 info_u8 vb LB cb at_ hle
            have hone := hK.one.fr.mid1 hf
            have hfc := hK.one.fr.le
            have one := run_one_fr fb fo j cl p (by omega)
            have RG := Lib.hid (rget_of hget _ _ _ _ (hK.bs.from_ hle))
            have HQ := Lib.hid (And.intro hK (And.intro hone (And.intro hf hX)))
            have c0 : (0 : Int) ≤ (c : Int) := by omega
            have c1 : (c : Int) < (N : Int) := by omega
            clear hX hX2 hfe hf hp hcc hat hget hK hone
            go_upto_region 18 with (go_at_call 27; refine RG.out.mono ?_; rintro e w6 ⟨ba, bc, rfl, hsf, hb, _⟩; have H6 := Lib.hid (And.intro hsf hb); clear hsf hb)
            have hB7 : Below wr.heap.size wr (w6.alloc (.cells #[.int .i64 f.ty, .int .i64 f.seq, .slice ba f.body.length bc] 36)) := H6.out.2.alloc H6.out.2.size _
            have F7 := heap_alloc_new w6 (.cells #[.int .i64 f.ty, .int .i64 f.seq, .slice ba f.body.length bc] 36)
            have S7 : Sl (w6.alloc (.cells #[.int .i64 f.ty, .int .i64 f.seq, .slice ba f.body.length bc] 36)) (w6.alloc (.cells #[.int .i64 f.ty, .int .i64 f.seq, .slice ba f.body.length bc] 36)).heap.size ba f.body.length bc f.body := (H6.out.1.below ((Below.refl _ w6).alloc (Nat.le_refl _) _) (Nat.le_refl _)).more (by simp)
            generalize w6.alloc (.cells #[.int .i64 f.ty, .int .i64 f.seq, .slice ba f.body.length bc] 36) = w7 at hB7 F7 S7 ⊢
            generalize w6.heap.size = bx at F7 ⊢
            have u0 := (cell_of_row w7 bx 0 _ _ _ F7).trans rfl
            have u1 := (cell_of_row w7 bx 1 _ _ _ F7).trans rfl
            have u2 := (cell_of_row w7 bx 2 _ _ _ F7).trans rfl
            have u3 := (hB7.cell (p := ⟨xb, xo + c * 2, none⟩) hxb).trans y0
            have hlt1 : bx < w7.drew.heap.size := lt_of_heap F7
            have hlt2 : xb < w7.drew.heap.size := Nat.lt_of_lt_of_le hxb hB7.size
            have hbA : Below w7.heap.size w7 (w7.drew.alloc (.cells #[.int .i64 f.ty, .int .i64 f.seq, .slice ba f.body.length bc] 36)) := (Below.drew (Below.refl _ _)).alloc (Nat.le_refl _) _
            have SM := Lib.hid (h_samefr (some ⟨w7.heap.size, 0, none⟩) 1 1 (some ⟨fb, fo + p * 3, none⟩) (cl - p) [f] (w7.drew.alloc (.cells #[.int .i64 f.ty, .int .i64 f.seq, .slice ba f.body.length bc] 36)) (Frs.one (heap_alloc_new w7.drew (.cells #[.int .i64 f.ty, .int .i64 f.seq, .slice ba f.body.length bc] 36)) rfl rfl rfl S7 hbA) ((HQ.out.2.1.below (hB7.trans (hbA.mono hB7.size)) (Nat.le_refl _)).below (Below.refl _ _) (hB7.trans (hbA.mono hB7.size)).size))
            have HT := Lib.hid (And.intro hB7 (hB7.trans (hbA.mono hB7.size)))
            clear hB7 F7 S7 hbA y0 y1 hmax hmin cutf RG H6 hfb hxb
            refine wp_region_held_drew (S := fun w' => w'.cell? ⟨bx, 0, none⟩ = some (.int .i64 f.ty) ∧ w'.cell? ⟨bx, 1, none⟩ = some (.int .i64 f.seq) ∧ w'.cell? ⟨bx, 2, none⟩ = some (.slice ba f.body.length bc) ∧ w'.cell? ⟨xb, xo + c * 2, none⟩ = some (.int .i64 f.seq)) (by kernel_rfl) ⟨u0, u1, u2, u3⟩ (fun hHeld => ?_)
            have hwp : IntKind.i64.wrap (p : Int) = (p : Int) := by rw [IntKind.wrap_i64]; omega
            have hwp1 : IntKind.i64.wrap ((p : Int) + 1) = (p : Int) + 1 := by rw [IntKind.wrap_i64]; omega
            refine wpAnyH_take (i := 0) (v := ?_) rfl (by kernel_rfl) (by kernel_rfl) (by kernel_rfl) (fun _ _ _ h => h) (Or.inl ⟨by rfl, ?_⟩) (by assumption) ?_
            rotate_left
            · intro w hSw
              (try dsimp only at hSw)
              go_simp
              all_goals with_reducible rfl
            try simp only [Act.put, List.getElem_toArray, List.getElem_cons_succ, List.getElem_cons_zero, List.setIfInBounds_toArray, List.set_cons_zero, List.set_cons_succ]
            refine wpAnyH_take (i := 1) (v := ?_) rfl (by kernel_rfl) (by kernel_rfl) (by kernel_rfl) (fun _ _ _ h => h) (Or.inl ⟨by rfl, ?_⟩) (by assumption) ?_
            rotate_left
            · intro w hSw
              (try dsimp only at hSw)
              go_simp
              all_goals with_reducible rfl
            try simp only [Act.put, List.getElem_toArray, List.getElem_cons_succ, List.getElem_cons_zero, List.setIfInBounds_toArray, List.set_cons_zero, List.set_cons_succ]
            refine wpAnyH_take (i := 2) (v := ?_) rfl (by kernel_rfl) (by kernel_rfl) (by kernel_rfl) (fun _ _ _ h => h) (Or.inl ⟨by rfl, ?_⟩) (by assumption) ?_
            rotate_left
            · intro w hSw
              (try dsimp only at hSw)
              go_simp
              all_goals with_reducible rfl
            try simp only [Act.put, List.getElem_toArray, List.getElem_cons_succ, List.getElem_cons_zero, List.setIfInBounds_toArray, List.set_cons_zero, List.set_cons_succ]
            refine wpAnyH_take (i := 3) (v := ?_) rfl (by kernel_rfl) (by kernel_rfl) (by kernel_rfl) (fun _ _ _ h => h) (Or.inl ⟨by rfl, ?_⟩) (by assumption) ?_
            rotate_left
            · intro w hSw
              (try dsimp only at hSw)
              go_simp
              all_goals with_reducible rfl
            try simp only [Act.put, List.getElem_toArray, List.getElem_cons_succ, List.getElem_cons_zero, List.setIfInBounds_toArray, List.set_cons_zero, List.set_cons_succ]
            refine wpAnyH_take (i := 5) (v := ?_) rfl (by kernel_rfl) (by kernel_rfl) (by kernel_rfl) (fun _ _ _ h => h) (Or.inl ⟨by rfl, ?_⟩) (by assumption) ?_
            rotate_left
            · intro w hSw
              (try dsimp only at hSw)
              go_simp
              all_goals with_reducible rfl
            try simp only [Act.put, List.getElem_toArray, List.getElem_cons_succ, List.getElem_cons_zero, List.setIfInBounds_toArray, List.set_cons_zero, List.set_cons_succ]
            refine wpAnyH_take (i := 6) (v := ?_) rfl (by kernel_rfl) (by kernel_rfl) (by kernel_rfl) (fun _ _ _ h => h) (Or.inl ⟨by rfl, ?_⟩) (by assumption) ?_
            rotate_left
            · intro w hSw
              (try dsimp only at hSw)
              go_simp
              all_goals with_reducible rfl
            try simp only [Act.put, List.getElem_toArray, List.getElem_cons_succ, List.getElem_cons_zero, List.setIfInBounds_toArray, List.set_cons_zero, List.set_cons_succ]
            refine wpAnyH_take (i := 7) (v := ?_) rfl (by kernel_rfl) (by kernel_rfl) (by kernel_rfl) (fun _ _ _ h => h) (Or.inl ⟨by rfl, ?_⟩) (by assumption) ?_
            rotate_left
            · intro w hSw
              (try dsimp only at hSw)
              go_simp
              all_goals with_reducible rfl
            try simp only [Act.put, List.getElem_toArray, List.getElem_cons_succ, List.getElem_cons_zero, List.setIfInBounds_toArray, List.set_cons_zero, List.set_cons_succ]
            refine wpAnyH_take (i := 8) (v := ?_) rfl (by kernel_rfl) (by kernel_rfl) (by kernel_rfl) (fun _ _ _ h => h) (Or.inl ⟨by rfl, ?_⟩) (by assumption) ?_
            rotate_left
            · intro w hSw
              (try dsimp only at hSw)
              go_simp
              all_goals with_reducible rfl
            try simp only [Act.put, List.getElem_toArray, List.getElem_cons_succ, List.getElem_cons_zero, List.setIfInBounds_toArray, List.set_cons_zero, List.set_cons_succ]
            refine wpAnyH_take (i := 9) (v := ?_) rfl (by kernel_rfl) (by kernel_rfl) (by kernel_rfl) (fun _ _ _ h => h) (Or.inl ⟨by rfl, ?_⟩) (by assumption) ?_
            rotate_left
            · intro w hSw
              (try dsimp only at hSw)
              go_simp
              all_goals with_reducible rfl
            try simp only [Act.put, List.getElem_toArray, List.getElem_cons_succ, List.getElem_cons_zero, List.setIfInBounds_toArray, List.set_cons_zero, List.set_cons_succ]
            refine wpAnyH_take (i := 10) (v := ?_) rfl (by kernel_rfl) (by kernel_rfl) (by kernel_rfl) (fun _ _ _ h => h) (Or.inl ⟨by rfl, ?_⟩) (by assumption) ?_
            rotate_left
            · intro w hSw
              (try dsimp only at hSw)
              go_simp
              all_goals with_reducible rfl
            try simp only [Act.put, List.getElem_toArray, List.getElem_cons_succ, List.getElem_cons_zero, List.setIfInBounds_toArray, List.set_cons_zero, List.set_cons_succ]
            refine wpAnyH_take (i := 11) (v := ?_) rfl (by kernel_rfl) (by kernel_rfl) (by kernel_rfl) (fun _ _ _ h => h) (Or.inl ⟨by rfl, ?_⟩) (by assumption) ?_
            rotate_left
            · intro w hSw
              (try dsimp only at hSw)
              go_simp
              all_goals with_reducible rfl
            try simp only [Act.put, List.getElem_toArray, List.getElem_cons_succ, List.getElem_cons_zero, List.setIfInBounds_toArray, List.set_cons_zero, List.set_cons_succ]
            refine wpAnyH_take (i := 12) (v := ?_) rfl (by kernel_rfl) (by kernel_rfl) (by kernel_rfl) (fun _ _ _ h => h) (Or.inl ⟨by rfl, ?_⟩) (by assumption) ?_
            rotate_left
            · intro w hSw
              (try dsimp only at hSw)
              go_simp
              all_goals with_reducible rfl
            try simp only [Act.put, List.getElem_toArray, List.getElem_cons_succ, List.getElem_cons_zero, List.setIfInBounds_toArray, List.set_cons_zero, List.set_cons_succ]
            refine wpAnyH_take (i := 13) (v := ?_) rfl (by kernel_rfl) (by kernel_rfl) (by kernel_rfl) (fun _ _ _ h => h) (Or.inl ⟨by rfl, ?_⟩) (by assumption) ?_
            rotate_left
            · intro w hSw
              (try dsimp only at hSw)
              go_simp
              all_goals with_reducible rfl
            try simp only [Act.put, List.getElem_toArray, List.getElem_cons_succ, List.getElem_cons_zero, List.setIfInBounds_toArray, List.set_cons_zero, List.set_cons_succ]
            refine wpAnyH_ready (rs := [4]) (by kernel_rfl) (by simp) ?_
            refine AllReadyH.cons rfl (fun K hK => ?_) AllReadyH.nil
            rw [if_pos (by rfl)]
            go_simp
            have v0 : (w7.drew.alloc (.cells #[.int .i64 f.ty, .int .i64 f.seq, .slice ba f.body.length bc] 36)).cell? ⟨bx, 0, none⟩ = some (.int .i64 f.ty) := (World.cell?_alloc_past _ _ _ hlt1).trans u0
            have v1 : (w7.drew.alloc (.cells #[.int .i64 f.ty, .int .i64 f.seq, .slice ba f.body.length bc] 36)).cell? ⟨bx, 1, none⟩ = some (.int .i64 f.seq) := (World.cell?_alloc_past _ _ _ hlt1).trans u1
            have v2 : (w7.drew.alloc (.cells #[.int .i64 f.ty, .int .i64 f.seq, .slice ba f.body.length bc] 36)).cell? ⟨bx, 2, none⟩ = some (.slice ba f.body.length bc) := (World.cell?_alloc_past _ _ _ hlt1).trans u2
            have v3 : (w7.drew.alloc (.cells #[.int .i64 f.ty, .int .i64 f.seq, .slice ba f.body.length bc] 36)).cell? ⟨xb, xo + c * 2, none⟩ = some (.int .i64 f.seq) := (World.cell?_alloc_past _ _ _ hlt2).trans u3
            have hl1 : bx < (w7.drew.alloc (.cells #[.int .i64 f.ty, .int .i64 f.seq, .slice ba f.body.length bc] 36)).heap.size := by simp at hlt1 ⊢; omega
            have hl2 : xb < (w7.drew.alloc (.cells #[.int .i64 f.ty, .int .i64 f.seq, .slice ba f.body.length bc] 36)).heap.size := by simp at hlt2 ⊢; omega
            refine hK.out _ _ ?_ (fun hHeld => ?_)
            · exact ⟨v0, v1, v2, v3⟩
            clear hK K
            try simp only [Act.put, List.getElem_toArray, List.getElem_cons_succ, List.getElem_cons_zero, List.setIfInBounds_toArray, List.set_cons_zero, List.set_cons_succ]
            refine wpAnyH_ready (rs := [14]) (by kernel_rfl) (by simp) ?_
            refine AllReadyH.cons rfl (fun K hK => ?_) AllReadyH.nil
            rw [if_pos (by rfl)]
            go_simp
            go_at_call 18
            refine SM.out.mono ?_
            rintro e w8 ⟨rfl, hb8⟩
            have z0 := (hb8.cell (p := ⟨bx, 0, none⟩) hl1).trans v0
            have z1 := (hb8.cell (p := ⟨bx, 1, none⟩) hl1).trans v1
            have z2 := (hb8.cell (p := ⟨bx, 2, none⟩) hl1).trans v2
            have z3 := (hb8.cell (p := ⟨xb, xo + c * 2, none⟩) hl2).trans v3
            refine hK.out _ _ ?_ (fun hHeld => ?_)
            · exact ⟨z0, z1, z2, z3⟩
            clear hK K
            try simp only [Act.put, List.getElem_toArray, List.getElem_cons_succ, List.getElem_cons_zero, List.setIfInBounds_toArray, List.set_cons_zero, List.set_cons_succ]
            have K8 := Lib.hid (HQ.out.1.on (HT.out.2.trans (hb8.mono HT.out.2.size)))
            clear v0 v1 v2 v3 u0 u1 u2 u3 hl1 hl2 hlt1 hlt2 hb8
            refine wpAnyH_take (i := 15) (v := ?_) rfl (by kernel_rfl) (by kernel_rfl) (by kernel_rfl) (fun _ _ _ h => h) (Or.inl ⟨by rfl, ?_⟩) (by assumption) ?_
            rotate_left
            · intro w hSw
              (try dsimp only at hSw)
              go_simp
              all_goals with_reducible rfl
            try simp only [Act.put, List.getElem_toArray, List.getElem_cons_succ, List.getElem_cons_zero, List.setIfInBounds_toArray, List.set_cons_zero, List.set_cons_succ]
            refine wpAnyH_take (i := 16) (v := ?_) rfl (by kernel_rfl) (by kernel_rfl) (by kernel_rfl) (fun _ _ _ h => h) (Or.inl ⟨by rfl, ?_⟩) (by assumption) ?_
            rotate_left
            · intro w hSw
              (try dsimp only at hSw)
              go_simp
              all_goals with_reducible rfl
            try simp only [Act.put, List.getElem_toArray, List.getElem_cons_succ, List.getElem_cons_zero, List.setIfInBounds_toArray, List.set_cons_zero, List.set_cons_succ]
            refine wpAnyH_take (i := 17) (v := ?_) rfl (by kernel_rfl) (by kernel_rfl) (by kernel_rfl) (fun _ _ _ h => h) (Or.inl ⟨by rfl, ?_⟩) (by assumption) ?_
            rotate_left
            · intro w hSw
              (try dsimp only at hSw)
              go_simp
              all_goals with_reducible rfl
            try simp only [Act.put, List.getElem_toArray, List.getElem_cons_succ, List.getElem_cons_zero, List.setIfInBounds_toArray, List.set_cons_zero, List.set_cons_succ]
            refine wpAnyH_take (i := 18) (v := ?_) rfl (by kernel_rfl) (by kernel_rfl) (by kernel_rfl) (fun _ _ _ h => h) (Or.inl ⟨by rfl, ?_⟩) (by assumption) ?_
            rotate_left
            · intro w hSw
              (try dsimp only at hSw)
              go_simp
              all_goals with_reducible rfl
            try simp only [Act.put, List.getElem_toArray, List.getElem_cons_succ, List.getElem_cons_zero, List.setIfInBounds_toArray, List.set_cons_zero, List.set_cons_succ]
            refine wpAnyH_take (i := 19) (v := ?_) rfl (by kernel_rfl) (by kernel_rfl) (by kernel_rfl) (fun _ _ _ h => h) (Or.inl ⟨by rfl, ?_⟩) (by assumption) ?_
            rotate_left
            · intro w hSw
              (try dsimp only at hSw)
              go_simp
              all_goals with_reducible rfl
            try simp only [Act.put, List.getElem_toArray, List.getElem_cons_succ, List.getElem_cons_zero, List.setIfInBounds_toArray, List.set_cons_zero, List.set_cons_succ]
            refine wpAnyH_take (i := 20) (v := ?_) rfl (by kernel_rfl) (by kernel_rfl) (by kernel_rfl) (fun _ _ _ h => h) (Or.inl ⟨by rfl, ?_⟩) (by assumption) ?_
            rotate_left
            · intro w hSw
              (try dsimp only at hSw)
              go_simp
              all_goals with_reducible rfl
            try simp only [Act.put, List.getElem_toArray, List.getElem_cons_succ, List.getElem_cons_zero, List.setIfInBounds_toArray, List.set_cons_zero, List.set_cons_succ]
            refine wpAnyH_take (i := 21) (v := ?_) rfl (by kernel_rfl) (by kernel_rfl) (by kernel_rfl) (fun _ _ _ h => h) (Or.inl ⟨by rfl, ?_⟩) (by assumption) ?_
            rotate_left
            · intro w hSw
              (try dsimp only at hSw)
              go_simp
              all_goals with_reducible rfl
            try simp only [Act.put, List.getElem_toArray, List.getElem_cons_succ, List.getElem_cons_zero, List.setIfInBounds_toArray, List.set_cons_zero, List.set_cons_succ]
            refine wpAnyH_take (i := 22) (v := ?_) rfl (by kernel_rfl) (by kernel_rfl) (by kernel_rfl) (fun _ _ _ h => h) (Or.inl ⟨by rfl, ?_⟩) (by assumption) ?_
            rotate_left
            · intro w hSw
              (try dsimp only at hSw)
              go_simp
              all_goals with_reducible rfl
            try simp only [Act.put, List.getElem_toArray, List.getElem_cons_succ, List.getElem_cons_zero, List.setIfInBounds_toArray, List.set_cons_zero, List.set_cons_succ]
            refine wpAnyH_take (i := 23) (v := ?_) rfl (by kernel_rfl) (by kernel_rfl) (by kernel_rfl) (fun _ _ _ h => h) (Or.inl ⟨by rfl, ?_⟩) (by assumption) ?_
            rotate_left
            · intro w hSw
              (try dsimp only at hSw)
              go_simp
              all_goals with_reducible rfl
            try simp only [Act.put, List.getElem_toArray, List.getElem_cons_succ, List.getElem_cons_zero, List.setIfInBounds_toArray, List.set_cons_zero, List.set_cons_succ]
            refine wpAnyH_take (i := 24) (v := ?_) rfl (by kernel_rfl) (by kernel_rfl) (by kernel_rfl) (fun _ _ _ h => h) (Or.inl ⟨by rfl, ?_⟩) (by assumption) ?_
            rotate_left
            · intro w hSw
              (try dsimp only at hSw)
              go_simp
              all_goals with_reducible rfl
            try simp only [Act.put, List.getElem_toArray, List.getElem_cons_succ, List.getElem_cons_zero, List.setIfInBounds_toArray, List.set_cons_zero, List.set_cons_succ]
            refine wpAnyH_take (i := 25) (v := ?_) rfl (by kernel_rfl) (by kernel_rfl) (by kernel_rfl) (fun _ _ _ h => h) (Or.inl ⟨by rfl, ?_⟩) (by assumption) ?_
            rotate_left
            · intro w hSw
              (try dsimp only at hSw)
              go_simp
              all_goals with_reducible rfl
            try simp only [Act.put, List.getElem_toArray, List.getElem_cons_succ, List.getElem_cons_zero, List.setIfInBounds_toArray, List.set_cons_zero, List.set_cons_succ]
            refine wpAnyH_take (i := 26) (v := ?_) rfl (by kernel_rfl) (by kernel_rfl) (by kernel_rfl) (fun _ _ _ h => h) (Or.inl ⟨by rfl, ?_⟩) (by assumption) ?_
            rotate_left
            · intro w hSw
              (try dsimp only at hSw)
              go_simp
              all_goals with_reducible rfl
            try simp only [Act.put, List.getElem_toArray, List.getElem_cons_succ, List.getElem_cons_zero, List.setIfInBounds_toArray, List.set_cons_zero, List.set_cons_succ]
            refine wpAnyH_done (by kernel_rfl) ?_ _
            clear hHeld z0 z1 z2 z3
            go_wp2_with fail
            go_roundw
            case rel => exact ⟨c + 1, by omega, by go_num, K8.out⟩
            case measure => simp [intOf]; omega
          · have hcN : N = c := by omega
            subst hcN
            have K6 := Lib.hid hK
            clear hK
            go_wp2_with fail
            go_loopw [17] (fun i wx => ∃ c : Nat, c ≤ j + 2 ∧ i = .int .i64 ((c : Int) - 1) ∧ IK w wx al j cl L vb LB cb (head q ++ rows L) x N xc (own_ix L ev)) (fun i _ => (j + 2 - (intOf i + 1).toNat))
            case atStart => exact ⟨0, by omega, rfl, K6.out⟩
            case round =>
              obtain ⟨c, hc, rfl, hK⟩ := hrel
              clear K6
              by_cases h0 : c = 0
              · subst h0
                rw [show ((0 : Nat) : Int) - 1 = -1 from rfl]
                have RF := Lib.hid (h_find_no (fun at_ is h => (found q L ev (by omega) HP.out.right HP.out.row (-1) at_ is h).trans (by rw [if_neg (by omega)])) vb LB cb (by rw [HP.out.lb]) x N xc (by omega) wr hK.bs hK.ixs)
                have K6 := Lib.hid hK
                clear hK
                go_upto_region 24 with (go_at_call 19; refine RF.out.mono ?_; rintro e w6 ⟨ba, bc, rfl, hb⟩; have K7 := K6.out.on (hb.alloc hb.size (.cells #[.int .i64 0, .int .i64 0, .slice ba 0 bc] 36)); clear hb)
                generalize w6.alloc (.cells #[.int .i64 0, .int .i64 0, .slice ba 0 bc] 36) = w7 at K7 ⊢
                have K8 := Lib.hid K7
                clear K7 RF K6
                refine wp_region_held_drew (S := fun _ => True) (by kernel_rfl) trivial (fun hHeld => ?_)
                refine wpAnyH_take (i := 0) (v := ?_) rfl (by kernel_rfl) (by kernel_rfl) (by kernel_rfl) (fun _ _ _ h => h) (Or.inl ⟨by rfl, ?_⟩) (by assumption) ?_
                rotate_left
                · intro w hSw
                  (try dsimp only at hSw)
                  go_simp
                  all_goals with_reducible rfl
                try simp only [Act.put, List.getElem_toArray, List.getElem_cons_succ, List.getElem_cons_zero, List.setIfInBounds_toArray, List.set_cons_zero, List.set_cons_succ]
                refine wpAnyH_take (i := 1) (v := ?_) rfl (by kernel_rfl) (by kernel_rfl) (by kernel_rfl) (fun _ _ _ h => h) (Or.inl ⟨by rfl, ?_⟩) (by assumption) ?_
                rotate_left
                · intro w hSw
                  (try dsimp only at hSw)
                  go_simp
                  all_goals with_reducible rfl
                try simp only [Act.put, List.getElem_toArray, List.getElem_cons_succ, List.getElem_cons_zero, List.setIfInBounds_toArray, List.set_cons_zero, List.set_cons_succ]
                refine wpAnyH_take (i := 2) (v := ?_) rfl (by kernel_rfl) (by kernel_rfl) (by kernel_rfl) (fun _ _ _ h => h) (Or.inl ⟨by rfl, ?_⟩) (by assumption) ?_
                rotate_left
                · intro w hSw
                  (try dsimp only at hSw)
                  go_simp
                  all_goals with_reducible rfl
                try simp only [Act.put, List.getElem_toArray, List.getElem_cons_succ, List.getElem_cons_zero, List.setIfInBounds_toArray, List.set_cons_zero, List.set_cons_succ]
                refine wpAnyH_take (i := 3) (v := ?_) rfl (by kernel_rfl) (by kernel_rfl) (by kernel_rfl) (fun _ _ _ h => h) (Or.inl ⟨by rfl, ?_⟩) (by assumption) ?_
                rotate_left
                · intro w hSw
                  (try dsimp only at hSw)
                  go_simp
                  all_goals with_reducible rfl
                try simp only [Act.put, List.getElem_toArray, List.getElem_cons_succ, List.getElem_cons_zero, List.setIfInBounds_toArray, List.set_cons_zero, List.set_cons_succ]
                refine wpAnyH_take (i := 4) (v := undef) rfl (by kernel_rfl) (by kernel_rfl) (by kernel_rfl) (fun _ _ _ h => h) (Or.inr ⟨by rfl, rfl⟩) (by assumption) ?_
                try simp only [Act.put, List.getElem_toArray, List.getElem_cons_succ, List.getElem_cons_zero, List.setIfInBounds_toArray, List.set_cons_zero, List.set_cons_succ]
                refine wpAnyH_take (i := 5) (v := undef) rfl (by kernel_rfl) (by kernel_rfl) (by kernel_rfl) (fun _ _ _ h => h) (Or.inr ⟨by rfl, rfl⟩) (by assumption) ?_
                try simp only [Act.put, List.getElem_toArray, List.getElem_cons_succ, List.getElem_cons_zero, List.setIfInBounds_toArray, List.set_cons_zero, List.set_cons_succ]
                refine wpAnyH_take (i := 6) (v := undef) rfl (by kernel_rfl) (by kernel_rfl) (by kernel_rfl) (fun _ _ _ h => h) (Or.inr ⟨by rfl, rfl⟩) (by assumption) ?_
                try simp only [Act.put, List.getElem_toArray, List.getElem_cons_succ, List.getElem_cons_zero, List.setIfInBounds_toArray, List.set_cons_zero, List.set_cons_succ]
                refine wpAnyH_take (i := 7) (v := undef) rfl (by kernel_rfl) (by kernel_rfl) (by kernel_rfl) (fun _ _ _ h => h) (Or.inr ⟨by rfl, rfl⟩) (by assumption) ?_
                try simp only [Act.put, List.getElem_toArray, List.getElem_cons_succ, List.getElem_cons_zero, List.setIfInBounds_toArray, List.set_cons_zero, List.set_cons_succ]
                refine wpAnyH_take (i := 8) (v := ?_) rfl (by kernel_rfl) (by kernel_rfl) (by kernel_rfl) (fun _ _ _ h => h) (Or.inl ⟨by rfl, ?_⟩) (by assumption) ?_
                rotate_left
                · intro w hSw
                  (try dsimp only at hSw)
                  go_simp
                  all_goals with_reducible rfl
                try simp only [Act.put, List.getElem_toArray, List.getElem_cons_succ, List.getElem_cons_zero, List.setIfInBounds_toArray, List.set_cons_zero, List.set_cons_succ]
                refine wpAnyH_take (i := 9) (v := ?_) rfl (by kernel_rfl) (by kernel_rfl) (by kernel_rfl) (fun _ _ _ h => h) (Or.inl ⟨by rfl, ?_⟩) (by assumption) ?_
                rotate_left
                · intro w hSw
                  (try dsimp only at hSw)
                  go_simp
                  all_goals with_reducible rfl
                try simp only [Act.put, List.getElem_toArray, List.getElem_cons_succ, List.getElem_cons_zero, List.setIfInBounds_toArray, List.set_cons_zero, List.set_cons_succ]
                refine wpAnyH_take (i := 10) (v := ?_) rfl (by kernel_rfl) (by kernel_rfl) (by kernel_rfl) (fun _ _ _ h => h) (Or.inl ⟨by rfl, ?_⟩) (by assumption) ?_
                rotate_left
                · intro w hSw
                  (try dsimp only at hSw)
                  go_simp
                  all_goals with_reducible rfl
                try simp only [Act.put, List.getElem_toArray, List.getElem_cons_succ, List.getElem_cons_zero, List.setIfInBounds_toArray, List.set_cons_zero, List.set_cons_succ]
                refine wpAnyH_take (i := 11) (v := ?_) rfl (by kernel_rfl) (by kernel_rfl) (by kernel_rfl) (fun _ _ _ h => h) (Or.inl ⟨by rfl, ?_⟩) (by assumption) ?_
                rotate_left
                · intro w hSw
                  (try dsimp only at hSw)
                  go_simp
                  all_goals with_reducible rfl
                try simp only [Act.put, List.getElem_toArray, List.getElem_cons_succ, List.getElem_cons_zero, List.setIfInBounds_toArray, List.set_cons_zero, List.set_cons_succ]
                refine wpAnyH_take (i := 12) (v := ?_) rfl (by kernel_rfl) (by kernel_rfl) (by kernel_rfl) (fun _ _ _ h => h) (Or.inl ⟨by rfl, ?_⟩) (by assumption) ?_
                rotate_left
                · intro w hSw
                  (try dsimp only at hSw)
                  go_simp
                  all_goals with_reducible rfl
                try simp only [Act.put, List.getElem_toArray, List.getElem_cons_succ, List.getElem_cons_zero, List.setIfInBounds_toArray, List.set_cons_zero, List.set_cons_succ]
                refine wpAnyH_take (i := 13) (v := undef) rfl (by kernel_rfl) (by kernel_rfl) (by kernel_rfl) (fun _ _ _ h => h) (Or.inr ⟨by rfl, rfl⟩) (by assumption) ?_
                try simp only [Act.put, List.getElem_toArray, List.getElem_cons_succ, List.getElem_cons_zero, List.setIfInBounds_toArray, List.set_cons_zero, List.set_cons_succ]
                refine wpAnyH_take (i := 14) (v := undef) rfl (by kernel_rfl) (by kernel_rfl) (by kernel_rfl) (fun _ _ _ h => h) (Or.inr ⟨by rfl, rfl⟩) (by assumption) ?_
                try simp only [Act.put, List.getElem_toArray, List.getElem_cons_succ, List.getElem_cons_zero, List.setIfInBounds_toArray, List.set_cons_zero, List.set_cons_succ]
                refine wpAnyH_take (i := 15) (v := undef) rfl (by kernel_rfl) (by kernel_rfl) (by kernel_rfl) (fun _ _ _ h => h) (Or.inr ⟨by rfl, rfl⟩) (by assumption) ?_
                try simp only [Act.put, List.getElem_toArray, List.getElem_cons_succ, List.getElem_cons_zero, List.setIfInBounds_toArray, List.set_cons_zero, List.set_cons_succ]
                refine wpAnyH_take (i := 16) (v := undef) rfl (by kernel_rfl) (by kernel_rfl) (by kernel_rfl) (fun _ _ _ h => h) (Or.inr ⟨by rfl, rfl⟩) (by assumption) ?_
                try simp only [Act.put, List.getElem_toArray, List.getElem_cons_succ, List.getElem_cons_zero, List.setIfInBounds_toArray, List.set_cons_zero, List.set_cons_succ]
                refine wpAnyH_take (i := 17) (v := undef) rfl (by kernel_rfl) (by kernel_rfl) (by kernel_rfl) (fun _ _ _ h => h) (Or.inr ⟨by rfl, rfl⟩) (by assumption) ?_
                try simp only [Act.put, List.getElem_toArray, List.getElem_cons_succ, List.getElem_cons_zero, List.setIfInBounds_toArray, List.set_cons_zero, List.set_cons_succ]
                refine wpAnyH_take (i := 18) (v := undef) rfl (by kernel_rfl) (by kernel_rfl) (by kernel_rfl) (fun _ _ _ h => h) (Or.inr ⟨by rfl, rfl⟩) (by assumption) ?_
                try simp only [Act.put, List.getElem_toArray, List.getElem_cons_succ, List.getElem_cons_zero, List.setIfInBounds_toArray, List.set_cons_zero, List.set_cons_succ]
                refine wpAnyH_take (i := 19) (v := undef) rfl (by kernel_rfl) (by kernel_rfl) (by kernel_rfl) (fun _ _ _ h => h) (Or.inr ⟨by rfl, rfl⟩) (by assumption) ?_
                try simp only [Act.put, List.getElem_toArray, List.getElem_cons_succ, List.getElem_cons_zero, List.setIfInBounds_toArray, List.set_cons_zero, List.set_cons_succ]
                refine wpAnyH_take (i := 20) (v := undef) rfl (by kernel_rfl) (by kernel_rfl) (by kernel_rfl) (fun _ _ _ h => h) (Or.inr ⟨by rfl, rfl⟩) (by assumption) ?_
                try simp only [Act.put, List.getElem_toArray, List.getElem_cons_succ, List.getElem_cons_zero, List.setIfInBounds_toArray, List.set_cons_zero, List.set_cons_succ]
                refine wpAnyH_take (i := 21) (v := undef) rfl (by kernel_rfl) (by kernel_rfl) (by kernel_rfl) (fun _ _ _ h => h) (Or.inr ⟨by rfl, rfl⟩) (by assumption) ?_
                try simp only [Act.put, List.getElem_toArray, List.getElem_cons_succ, List.getElem_cons_zero, List.setIfInBounds_toArray, List.set_cons_zero, List.set_cons_succ]
                refine wpAnyH_take (i := 22) (v := ?_) rfl (by kernel_rfl) (by kernel_rfl) (by kernel_rfl) (fun _ _ _ h => h) (Or.inl ⟨by rfl, ?_⟩) (by assumption) ?_
                rotate_left
                · intro w hSw
                  (try dsimp only at hSw)
                  go_simp
                  all_goals with_reducible rfl
                try simp only [Act.put, List.getElem_toArray, List.getElem_cons_succ, List.getElem_cons_zero, List.setIfInBounds_toArray, List.set_cons_zero, List.set_cons_succ]
                refine wpAnyH_take (i := 23) (v := ?_) rfl (by kernel_rfl) (by kernel_rfl) (by kernel_rfl) (fun _ _ _ h => h) (Or.inl ⟨by rfl, ?_⟩) (by assumption) ?_
                rotate_left
                · intro w hSw
                  (try dsimp only at hSw)
                  go_simp
                  all_goals with_reducible rfl
                try simp only [Act.put, List.getElem_toArray, List.getElem_cons_succ, List.getElem_cons_zero, List.setIfInBounds_toArray, List.set_cons_zero, List.set_cons_succ]
                refine wpAnyH_done (by kernel_rfl) ?_ _
                clear hHeld
                have K9 := Lib.hid (K8.out.on (Below.drew (Below.refl _ _)))
                clear K8
                go_wp2_with fail
                go_roundw
                case rel => exact ⟨1, by omega, by go_num, K9.out⟩
                case measure => simp [intOf] <;> omega
              · by_cases hj1 : c = j + 1
                · subst hj1
                  rw [show ((j + 1 : Nat) : Int) - 1 = (j : Int) from by omega]
                  have RF := Lib.hid (h_find_no (fun at_ is h => (found q L ev (by omega) HP.out.right HP.out.row ((j : Int)) at_ is h).trans (by rw [if_pos (by omega), Int.toNat_natCast, List.getElem?_eq_none (by rw [HP.out.len]; exact Nat.le_refl _)])) vb LB cb (by rw [HP.out.lb]) x N xc (by omega) wr hK.bs hK.ixs)
                  have K6 := Lib.hid hK
                  clear hK
                  go_upto_region 24 with (go_at_call 19; refine RF.out.mono ?_; rintro e w6 ⟨ba, bc, rfl, hb⟩; have K7 := K6.out.on (hb.alloc hb.size (.cells #[.int .i64 0, .int .i64 0, .slice ba 0 bc] 36)); clear hb)
                  generalize w6.alloc (.cells #[.int .i64 0, .int .i64 0, .slice ba 0 bc] 36) = w7 at K7 ⊢
                  have K8 := Lib.hid K7
                  clear K7 RF K6
                  refine wp_region_held_drew (S := fun _ => True) (by kernel_rfl) trivial (fun hHeld => ?_)
                  refine wpAnyH_take (i := 0) (v := ?_) rfl (by kernel_rfl) (by kernel_rfl) (by kernel_rfl) (fun _ _ _ h => h) (Or.inl ⟨by rfl, ?_⟩) (by assumption) ?_
                  rotate_left
                  · intro w hSw
                    (try dsimp only at hSw)
                    go_simp
                    all_goals with_reducible rfl
                  try simp only [Act.put, List.getElem_toArray, List.getElem_cons_succ, List.getElem_cons_zero, List.setIfInBounds_toArray, List.set_cons_zero, List.set_cons_succ]
                  refine wpAnyH_take (i := 1) (v := ?_) rfl (by kernel_rfl) (by kernel_rfl) (by kernel_rfl) (fun _ _ _ h => h) (Or.inl ⟨by rfl, ?_⟩) (by assumption) ?_
                  rotate_left
                  · intro w hSw
                    (try dsimp only at hSw)
                    go_simp
                    all_goals with_reducible rfl
                  try simp only [Act.put, List.getElem_toArray, List.getElem_cons_succ, List.getElem_cons_zero, List.setIfInBounds_toArray, List.set_cons_zero, List.set_cons_succ]
                  refine wpAnyH_take (i := 2) (v := ?_) rfl (by kernel_rfl) (by kernel_rfl) (by kernel_rfl) (fun _ _ _ h => h) (Or.inl ⟨by rfl, ?_⟩) (by assumption) ?_
                  rotate_left
                  · intro w hSw
                    (try dsimp only at hSw)
                    go_simp
                    all_goals with_reducible rfl
                  try simp only [Act.put, List.getElem_toArray, List.getElem_cons_succ, List.getElem_cons_zero, List.setIfInBounds_toArray, List.set_cons_zero, List.set_cons_succ]
                  refine wpAnyH_take (i := 3) (v := ?_) rfl (by kernel_rfl) (by kernel_rfl) (by kernel_rfl) (fun _ _ _ h => h) (Or.inl ⟨by rfl, ?_⟩) (by assumption) ?_
                  rotate_left
                  · intro w hSw
                    (try dsimp only at hSw)
                    go_simp
                    all_goals with_reducible rfl
                  try simp only [Act.put, List.getElem_toArray, List.getElem_cons_succ, List.getElem_cons_zero, List.setIfInBounds_toArray, List.set_cons_zero, List.set_cons_succ]
                  refine wpAnyH_take (i := 4) (v := ?_) rfl (by kernel_rfl) (by kernel_rfl) (by kernel_rfl) (fun _ _ _ h => h) (Or.inl ⟨by rfl, ?_⟩) (by assumption) ?_
                  rotate_left
                  · intro w hSw
                    (try dsimp only at hSw)
                    go_simp
                    all_goals with_reducible rfl
                  try simp only [Act.put, List.getElem_toArray, List.getElem_cons_succ, List.getElem_cons_zero, List.setIfInBounds_toArray, List.set_cons_zero, List.set_cons_succ]
                  refine wpAnyH_take (i := 5) (v := ?_) rfl (by kernel_rfl) (by kernel_rfl) (by kernel_rfl) (fun _ _ _ h => h) (Or.inl ⟨by rfl, ?_⟩) (by assumption) ?_
                  rotate_left
                  · intro w hSw
                    (try dsimp only at hSw)
                    go_simp
                    all_goals with_reducible rfl
                  try simp only [Act.put, List.getElem_toArray, List.getElem_cons_succ, List.getElem_cons_zero, List.setIfInBounds_toArray, List.set_cons_zero, List.set_cons_succ]
                  refine wpAnyH_take (i := 6) (v := ?_) rfl (by kernel_rfl) (by kernel_rfl) (by kernel_rfl) (fun _ _ _ h => h) (Or.inl ⟨by rfl, ?_⟩) (by assumption) ?_
                  rotate_left
                  · intro w hSw
                    (try dsimp only at hSw)
                    go_simp
                    all_goals with_reducible rfl
                  try simp only [Act.put, List.getElem_toArray, List.getElem_cons_succ, List.getElem_cons_zero, List.setIfInBounds_toArray, List.set_cons_zero, List.set_cons_succ]
                  refine wpAnyH_take (i := 7) (v := ?_) rfl (by kernel_rfl) (by kernel_rfl) (by kernel_rfl) (fun _ _ _ h => h) (Or.inl ⟨by rfl, ?_⟩) (by assumption) ?_
                  rotate_left
                  · intro w hSw
                    (try dsimp only at hSw)
                    go_simp
                    all_goals with_reducible rfl
                  try simp only [Act.put, List.getElem_toArray, List.getElem_cons_succ, List.getElem_cons_zero, List.setIfInBounds_toArray, List.set_cons_zero, List.set_cons_succ]
                  refine wpAnyH_take (i := 8) (v := ?_) rfl (by kernel_rfl) (by kernel_rfl) (by kernel_rfl) (fun _ _ _ h => h) (Or.inl ⟨by rfl, ?_⟩) (by assumption) ?_
                  rotate_left
                  · intro w hSw
                    (try dsimp only at hSw)
                    go_simp
                    all_goals with_reducible rfl
                  try simp only [Act.put, List.getElem_toArray, List.getElem_cons_succ, List.getElem_cons_zero, List.setIfInBounds_toArray, List.set_cons_zero, List.set_cons_succ]
                  refine wpAnyH_take (i := 9) (v := ?_) rfl (by kernel_rfl) (by kernel_rfl) (by kernel_rfl) (fun _ _ _ h => h) (Or.inl ⟨by rfl, ?_⟩) (by assumption) ?_
                  rotate_left
                  · intro w hSw
                    (try dsimp only at hSw)
                    go_simp
                    all_goals with_reducible rfl
                  try simp only [Act.put, List.getElem_toArray, List.getElem_cons_succ, List.getElem_cons_zero, List.setIfInBounds_toArray, List.set_cons_zero, List.set_cons_succ]
                  refine wpAnyH_take (i := 10) (v := ?_) rfl (by kernel_rfl) (by kernel_rfl) (by kernel_rfl) (fun _ _ _ h => h) (Or.inl ⟨by rfl, ?_⟩) (by assumption) ?_
                  rotate_left
                  · intro w hSw
                    (try dsimp only at hSw)
                    go_simp
                    all_goals with_reducible rfl
                  try simp only [Act.put, List.getElem_toArray, List.getElem_cons_succ, List.getElem_cons_zero, List.setIfInBounds_toArray, List.set_cons_zero, List.set_cons_succ]
                  refine wpAnyH_take (i := 11) (v := ?_) rfl (by kernel_rfl) (by kernel_rfl) (by kernel_rfl) (fun _ _ _ h => h) (Or.inl ⟨by rfl, ?_⟩) (by assumption) ?_
                  rotate_left
                  · intro w hSw
                    (try dsimp only at hSw)
                    go_simp
                    all_goals with_reducible rfl
                  try simp only [Act.put, List.getElem_toArray, List.getElem_cons_succ, List.getElem_cons_zero, List.setIfInBounds_toArray, List.set_cons_zero, List.set_cons_succ]
                  refine wpAnyH_take (i := 12) (v := ?_) rfl (by kernel_rfl) (by kernel_rfl) (by kernel_rfl) (fun _ _ _ h => h) (Or.inl ⟨by rfl, ?_⟩) (by assumption) ?_
                  rotate_left
                  · intro w hSw
                    (try dsimp only at hSw)
                    go_simp
                    all_goals with_reducible rfl
                  try simp only [Act.put, List.getElem_toArray, List.getElem_cons_succ, List.getElem_cons_zero, List.setIfInBounds_toArray, List.set_cons_zero, List.set_cons_succ]
                  refine wpAnyH_take (i := 13) (v := undef) rfl (by kernel_rfl) (by kernel_rfl) (by kernel_rfl) (fun _ _ _ h => h) (Or.inr ⟨by rfl, rfl⟩) (by assumption) ?_
                  try simp only [Act.put, List.getElem_toArray, List.getElem_cons_succ, List.getElem_cons_zero, List.setIfInBounds_toArray, List.set_cons_zero, List.set_cons_succ]
                  refine wpAnyH_take (i := 14) (v := undef) rfl (by kernel_rfl) (by kernel_rfl) (by kernel_rfl) (fun _ _ _ h => h) (Or.inr ⟨by rfl, rfl⟩) (by assumption) ?_
                  try simp only [Act.put, List.getElem_toArray, List.getElem_cons_succ, List.getElem_cons_zero, List.setIfInBounds_toArray, List.set_cons_zero, List.set_cons_succ]
                  refine wpAnyH_take (i := 15) (v := undef) rfl (by kernel_rfl) (by kernel_rfl) (by kernel_rfl) (fun _ _ _ h => h) (Or.inr ⟨by rfl, rfl⟩) (by assumption) ?_
                  try simp only [Act.put, List.getElem_toArray, List.getElem_cons_succ, List.getElem_cons_zero, List.setIfInBounds_toArray, List.set_cons_zero, List.set_cons_succ]
                  refine wpAnyH_take (i := 16) (v := undef) rfl (by kernel_rfl) (by kernel_rfl) (by kernel_rfl) (fun _ _ _ h => h) (Or.inr ⟨by rfl, rfl⟩) (by assumption) ?_
                  try simp only [Act.put, List.getElem_toArray, List.getElem_cons_succ, List.getElem_cons_zero, List.setIfInBounds_toArray, List.set_cons_zero, List.set_cons_succ]
                  refine wpAnyH_take (i := 17) (v := undef) rfl (by kernel_rfl) (by kernel_rfl) (by kernel_rfl) (fun _ _ _ h => h) (Or.inr ⟨by rfl, rfl⟩) (by assumption) ?_
                  try simp only [Act.put, List.getElem_toArray, List.getElem_cons_succ, List.getElem_cons_zero, List.setIfInBounds_toArray, List.set_cons_zero, List.set_cons_succ]
                  refine wpAnyH_take (i := 18) (v := undef) rfl (by kernel_rfl) (by kernel_rfl) (by kernel_rfl) (fun _ _ _ h => h) (Or.inr ⟨by rfl, rfl⟩) (by assumption) ?_
                  try simp only [Act.put, List.getElem_toArray, List.getElem_cons_succ, List.getElem_cons_zero, List.setIfInBounds_toArray, List.set_cons_zero, List.set_cons_succ]
                  refine wpAnyH_take (i := 19) (v := undef) rfl (by kernel_rfl) (by kernel_rfl) (by kernel_rfl) (fun _ _ _ h => h) (Or.inr ⟨by rfl, rfl⟩) (by assumption) ?_
                  try simp only [Act.put, List.getElem_toArray, List.getElem_cons_succ, List.getElem_cons_zero, List.setIfInBounds_toArray, List.set_cons_zero, List.set_cons_succ]
                  refine wpAnyH_take (i := 20) (v := undef) rfl (by kernel_rfl) (by kernel_rfl) (by kernel_rfl) (fun _ _ _ h => h) (Or.inr ⟨by rfl, rfl⟩) (by assumption) ?_
                  try simp only [Act.put, List.getElem_toArray, List.getElem_cons_succ, List.getElem_cons_zero, List.setIfInBounds_toArray, List.set_cons_zero, List.set_cons_succ]
                  refine wpAnyH_take (i := 21) (v := undef) rfl (by kernel_rfl) (by kernel_rfl) (by kernel_rfl) (fun _ _ _ h => h) (Or.inr ⟨by rfl, rfl⟩) (by assumption) ?_
                  try simp only [Act.put, List.getElem_toArray, List.getElem_cons_succ, List.getElem_cons_zero, List.setIfInBounds_toArray, List.set_cons_zero, List.set_cons_succ]
                  refine wpAnyH_take (i := 22) (v := ?_) rfl (by kernel_rfl) (by kernel_rfl) (by kernel_rfl) (fun _ _ _ h => h) (Or.inl ⟨by rfl, ?_⟩) (by assumption) ?_
                  rotate_left
                  · intro w hSw
                    (try dsimp only at hSw)
                    go_simp
                    all_goals with_reducible rfl
                  try simp only [Act.put, List.getElem_toArray, List.getElem_cons_succ, List.getElem_cons_zero, List.setIfInBounds_toArray, List.set_cons_zero, List.set_cons_succ]
                  refine wpAnyH_take (i := 23) (v := ?_) rfl (by kernel_rfl) (by kernel_rfl) (by kernel_rfl) (fun _ _ _ h => h) (Or.inl ⟨by rfl, ?_⟩) (by assumption) ?_
                  rotate_left
                  · intro w hSw
                    (try dsimp only at hSw)
                    go_simp
                    all_goals with_reducible rfl
                  try simp only [Act.put, List.getElem_toArray, List.getElem_cons_succ, List.getElem_cons_zero, List.setIfInBounds_toArray, List.set_cons_zero, List.set_cons_succ]
                  refine wpAnyH_done (by kernel_rfl) ?_ _
                  clear hHeld
                  have K9 := Lib.hid (K8.out.on (Below.drew (Below.refl _ _)))
                  clear K8
                  go_wp2_with fail
                  go_roundw
                  case rel => exact ⟨j + 2, by omega, by go_num, K9.out⟩
                  case measure => simp [intOf] <;> omega
                · by_cases hj2 : c = j + 2
                  · subst hj2
                    rw [show ((j + 2 : Nat) : Int) - 1 = (j : Int) + 1 from by omega]
                    have K9 := Lib.hid hK
                    clear hK
                    go_wp2_with fail
                    go_ret
                    exact ⟨rfl, K9.out.one.one.below⟩
                  · obtain ⟨p, rfl⟩ : ∃ p, c = p + 1 := ⟨c - 1, by omega⟩
                    rw [show ((p + 1 : Nat) : Int) - 1 = (p : Int) from by omega]
                    have hpj : p < j := by omega
                    have hpj' : (p : Int) < (j : Int) := by omega
                    have hpl : p < L.length := by rw [HP.out.len]; exact hpj
                    have hf : L[p]? = some L[p] := List.getElem?_eq_getElem hpl
                    have RF := h_find_yes (fun at_ is h => (found q L ev (by omega) HP.out.right HP.out.row (p : Int) at_ is h).trans (by rw [if_pos (by omega), Int.toNat_natCast]; exact hf)) vb LB cb (by rw [HP.out.lb]) x N xc (by omega) wr hK.bs hK.ixs
                    generalize L[p] = f at hf RF
                    clear hpl
                    have RF := Lib.hid RF
                    obtain ⟨fb, fo, rfl, hfb, _⟩ := hK.one.fr.at_ (by omega)
                    have hone := hK.one.fr.mid1 hf
                    have hfc := hK.one.fr.le
                    have one := run_one_fr fb fo j cl p (by omega)
                    have HQ := Lib.hid (And.intro hK hone)
                    clear hK hone hf hfb h0 hj1 hj2
                    go_upto_region 24 with (go_at_call 19; refine RF.out.mono ?_; rintro e w6 ⟨ba, bc, rfl, hsf, hb⟩; have H6 := Lib.hid (And.intro hsf hb); clear hsf hb)
                    have hB7 : Below wr.heap.size wr (w6.alloc (.cells #[.int .i64 f.ty, .int .i64 f.seq, .slice ba f.body.length bc] 36)) := H6.out.2.alloc H6.out.2.size _
                    have F7 := heap_alloc_new w6 (.cells #[.int .i64 f.ty, .int .i64 f.seq, .slice ba f.body.length bc] 36)
                    have S7 : Sl (w6.alloc (.cells #[.int .i64 f.ty, .int .i64 f.seq, .slice ba f.body.length bc] 36)) (w6.alloc (.cells #[.int .i64 f.ty, .int .i64 f.seq, .slice ba f.body.length bc] 36)).heap.size ba f.body.length bc f.body := (H6.out.1.below ((Below.refl _ w6).alloc (Nat.le_refl _) _) (Nat.le_refl _)).more (by simp)
                    generalize w6.alloc (.cells #[.int .i64 f.ty, .int .i64 f.seq, .slice ba f.body.length bc] 36) = w7 at hB7 F7 S7 ⊢
                    generalize w6.heap.size = bx at F7 ⊢
                    have u0 := (cell_of_row w7 bx 0 _ _ _ F7).trans rfl
                    have u1 := (cell_of_row w7 bx 1 _ _ _ F7).trans rfl
                    have u2 := (cell_of_row w7 bx 2 _ _ _ F7).trans rfl
                    have hbA : Below w7.heap.size w7 (w7.drew.alloc (.cells #[.int .i64 f.ty, .int .i64 f.seq, .slice ba f.body.length bc] 36)) := (Below.drew (Below.refl _ _)).alloc (Nat.le_refl _) _
                    have SM := Lib.hid (h_samefr (some ⟨w7.heap.size, 0, none⟩) 1 1 (some ⟨fb, fo + p * 3, none⟩) (cl - p) [f] (w7.drew.alloc (.cells #[.int .i64 f.ty, .int .i64 f.seq, .slice ba f.body.length bc] 36)) (Frs.one (heap_alloc_new w7.drew (.cells #[.int .i64 f.ty, .int .i64 f.seq, .slice ba f.body.length bc] 36)) rfl rfl rfl S7 hbA) ((HQ.out.2.below (hB7.trans (hbA.mono hB7.size)) (Nat.le_refl _)).below (Below.refl _ _) (hB7.trans (hbA.mono hB7.size)).size))
                    have HT := Lib.hid (And.intro hB7 (hB7.trans (hbA.mono hB7.size)))
                    clear hB7 F7 S7 hbA RF H6
                    refine wp_region_held_drew (S := fun w' => w'.cell? ⟨bx, 0, none⟩ = some (.int .i64 f.ty) ∧ w'.cell? ⟨bx, 1, none⟩ = some (.int .i64 f.seq) ∧ w'.cell? ⟨bx, 2, none⟩ = some (.slice ba f.body.length bc)) (by kernel_rfl) ⟨u0, u1, u2⟩ (fun hHeld => ?_)
                    have hwp : IntKind.i64.wrap (p : Int) = (p : Int) := by rw [IntKind.wrap_i64]; omega
                    have hwp1 : IntKind.i64.wrap ((p : Int) + 1) = (p : Int) + 1 := by rw [IntKind.wrap_i64]; omega
                    have hlt1 : bx < w7.drew.heap.size := block_lt_of_cell u0
                    refine wpAnyH_take (i := 0) (v := ?_) rfl (by kernel_rfl) (by kernel_rfl) (by kernel_rfl) (fun _ _ _ h => h) (Or.inl ⟨by rfl, ?_⟩) (by assumption) ?_
                    rotate_left
                    · intro w hSw
                      (try dsimp only at hSw)
                      go_simp
                      all_goals with_reducible rfl
                    try simp only [Act.put, List.getElem_toArray, List.getElem_cons_succ, List.getElem_cons_zero, List.setIfInBounds_toArray, List.set_cons_zero, List.set_cons_succ]
                    refine wpAnyH_take (i := 1) (v := ?_) rfl (by kernel_rfl) (by kernel_rfl) (by kernel_rfl) (fun _ _ _ h => h) (Or.inl ⟨by rfl, ?_⟩) (by assumption) ?_
                    rotate_left
                    · intro w hSw
                      (try dsimp only at hSw)
                      go_simp
                      all_goals with_reducible rfl
                    try simp only [Act.put, List.getElem_toArray, List.getElem_cons_succ, List.getElem_cons_zero, List.setIfInBounds_toArray, List.set_cons_zero, List.set_cons_succ]
                    refine wpAnyH_take (i := 2) (v := ?_) rfl (by kernel_rfl) (by kernel_rfl) (by kernel_rfl) (fun _ _ _ h => h) (Or.inl ⟨by rfl, ?_⟩) (by assumption) ?_
                    rotate_left
                    · intro w hSw
                      (try dsimp only at hSw)
                      go_simp
                      all_goals with_reducible rfl
                    try simp only [Act.put, List.getElem_toArray, List.getElem_cons_succ, List.getElem_cons_zero, List.setIfInBounds_toArray, List.set_cons_zero, List.set_cons_succ]
                    refine wpAnyH_take (i := 3) (v := ?_) rfl (by kernel_rfl) (by kernel_rfl) (by kernel_rfl) (fun _ _ _ h => h) (Or.inl ⟨by rfl, ?_⟩) (by assumption) ?_
                    rotate_left
                    · intro w hSw
                      (try dsimp only at hSw)
                      go_simp
                      all_goals with_reducible rfl
                    try simp only [Act.put, List.getElem_toArray, List.getElem_cons_succ, List.getElem_cons_zero, List.setIfInBounds_toArray, List.set_cons_zero, List.set_cons_succ]
                    refine wpAnyH_take (i := 4) (v := ?_) rfl (by kernel_rfl) (by kernel_rfl) (by kernel_rfl) (fun _ _ _ h => h) (Or.inl ⟨by rfl, ?_⟩) (by assumption) ?_
                    rotate_left
                    · intro w hSw
                      (try dsimp only at hSw)
                      go_simp
                      all_goals with_reducible rfl
                    try simp only [Act.put, List.getElem_toArray, List.getElem_cons_succ, List.getElem_cons_zero, List.setIfInBounds_toArray, List.set_cons_zero, List.set_cons_succ]
                    refine wpAnyH_take (i := 5) (v := ?_) rfl (by kernel_rfl) (by kernel_rfl) (by kernel_rfl) (fun _ _ _ h => h) (Or.inl ⟨by rfl, ?_⟩) (by assumption) ?_
                    rotate_left
                    · intro w hSw
                      (try dsimp only at hSw)
                      go_simp
                      all_goals with_reducible rfl
                    try simp only [Act.put, List.getElem_toArray, List.getElem_cons_succ, List.getElem_cons_zero, List.setIfInBounds_toArray, List.set_cons_zero, List.set_cons_succ]
                    refine wpAnyH_take (i := 6) (v := ?_) rfl (by kernel_rfl) (by kernel_rfl) (by kernel_rfl) (fun _ _ _ h => h) (Or.inl ⟨by rfl, ?_⟩) (by assumption) ?_
                    rotate_left
                    · intro w hSw
                      (try dsimp only at hSw)
                      go_simp
                      all_goals with_reducible rfl
                    try simp only [Act.put, List.getElem_toArray, List.getElem_cons_succ, List.getElem_cons_zero, List.setIfInBounds_toArray, List.set_cons_zero, List.set_cons_succ]
                    refine wpAnyH_take (i := 7) (v := ?_) rfl (by kernel_rfl) (by kernel_rfl) (by kernel_rfl) (fun _ _ _ h => h) (Or.inl ⟨by rfl, ?_⟩) (by assumption) ?_
                    rotate_left
                    · intro w hSw
                      (try dsimp only at hSw)
                      go_simp
                      all_goals with_reducible rfl
                    try simp only [Act.put, List.getElem_toArray, List.getElem_cons_succ, List.getElem_cons_zero, List.setIfInBounds_toArray, List.set_cons_zero, List.set_cons_succ]
                    refine wpAnyH_take (i := 8) (v := ?_) rfl (by kernel_rfl) (by kernel_rfl) (by kernel_rfl) (fun _ _ _ h => h) (Or.inl ⟨by rfl, ?_⟩) (by assumption) ?_
                    rotate_left
                    · intro w hSw
                      (try dsimp only at hSw)
                      go_simp
                      all_goals with_reducible rfl
                    try simp only [Act.put, List.getElem_toArray, List.getElem_cons_succ, List.getElem_cons_zero, List.setIfInBounds_toArray, List.set_cons_zero, List.set_cons_succ]
                    refine wpAnyH_take (i := 9) (v := ?_) rfl (by kernel_rfl) (by kernel_rfl) (by kernel_rfl) (fun _ _ _ h => h) (Or.inl ⟨by rfl, ?_⟩) (by assumption) ?_
                    rotate_left
                    · intro w hSw
                      (try dsimp only at hSw)
                      go_simp
                      all_goals with_reducible rfl
                    try simp only [Act.put, List.getElem_toArray, List.getElem_cons_succ, List.getElem_cons_zero, List.setIfInBounds_toArray, List.set_cons_zero, List.set_cons_succ]
                    refine wpAnyH_take (i := 10) (v := ?_) rfl (by kernel_rfl) (by kernel_rfl) (by kernel_rfl) (fun _ _ _ h => h) (Or.inl ⟨by rfl, ?_⟩) (by assumption) ?_
                    rotate_left
                    · intro w hSw
                      (try dsimp only at hSw)
                      go_simp
                      all_goals with_reducible rfl
                    try simp only [Act.put, List.getElem_toArray, List.getElem_cons_succ, List.getElem_cons_zero, List.setIfInBounds_toArray, List.set_cons_zero, List.set_cons_succ]
                    refine wpAnyH_take (i := 11) (v := ?_) rfl (by kernel_rfl) (by kernel_rfl) (by kernel_rfl) (fun _ _ _ h => h) (Or.inl ⟨by rfl, ?_⟩) (by assumption) ?_
                    rotate_left
                    · intro w hSw
                      (try dsimp only at hSw)
                      go_simp
                      all_goals with_reducible rfl
                    try simp only [Act.put, List.getElem_toArray, List.getElem_cons_succ, List.getElem_cons_zero, List.setIfInBounds_toArray, List.set_cons_zero, List.set_cons_succ]
                    refine wpAnyH_take (i := 12) (v := ?_) rfl (by kernel_rfl) (by kernel_rfl) (by kernel_rfl) (fun _ _ _ h => h) (Or.inl ⟨by rfl, ?_⟩) (by assumption) ?_
                    rotate_left
                    · intro w hSw
                      (try dsimp only at hSw)
                      go_simp
                      all_goals with_reducible rfl
                    try simp only [Act.put, List.getElem_toArray, List.getElem_cons_succ, List.getElem_cons_zero, List.setIfInBounds_toArray, List.set_cons_zero, List.set_cons_succ]
                    refine wpAnyH_take (i := 13) (v := ?_) rfl (by kernel_rfl) (by kernel_rfl) (by kernel_rfl) (fun _ _ _ h => h) (Or.inl ⟨by rfl, ?_⟩) (by assumption) ?_
                    rotate_left
                    · intro w hSw
                      (try dsimp only at hSw)
                      go_simp
                      all_goals with_reducible rfl
                    try simp only [Act.put, List.getElem_toArray, List.getElem_cons_succ, List.getElem_cons_zero, List.setIfInBounds_toArray, List.set_cons_zero, List.set_cons_succ]
                    refine wpAnyH_take (i := 15) (v := ?_) rfl (by kernel_rfl) (by kernel_rfl) (by kernel_rfl) (fun _ _ _ h => h) (Or.inl ⟨by rfl, ?_⟩) (by assumption) ?_
                    rotate_left
                    · intro w hSw
                      (try dsimp only at hSw)
                      go_simp
                      all_goals with_reducible rfl
                    try simp only [Act.put, List.getElem_toArray, List.getElem_cons_succ, List.getElem_cons_zero, List.setIfInBounds_toArray, List.set_cons_zero, List.set_cons_succ]
                    refine wpAnyH_take (i := 16) (v := ?_) rfl (by kernel_rfl) (by kernel_rfl) (by kernel_rfl) (fun _ _ _ h => h) (Or.inl ⟨by rfl, ?_⟩) (by assumption) ?_
                    rotate_left
                    · intro w hSw
                      (try dsimp only at hSw)
                      go_simp
                      all_goals with_reducible rfl
                    try simp only [Act.put, List.getElem_toArray, List.getElem_cons_succ, List.getElem_cons_zero, List.setIfInBounds_toArray, List.set_cons_zero, List.set_cons_succ]
                    refine wpAnyH_take (i := 17) (v := ?_) rfl (by kernel_rfl) (by kernel_rfl) (by kernel_rfl) (fun _ _ _ h => h) (Or.inl ⟨by rfl, ?_⟩) (by assumption) ?_
                    rotate_left
                    · intro w hSw
                      (try dsimp only at hSw)
                      go_simp
                      all_goals with_reducible rfl
                    try simp only [Act.put, List.getElem_toArray, List.getElem_cons_succ, List.getElem_cons_zero, List.setIfInBounds_toArray, List.set_cons_zero, List.set_cons_succ]
                    refine wpAnyH_take (i := 18) (v := ?_) rfl (by kernel_rfl) (by kernel_rfl) (by kernel_rfl) (fun _ _ _ h => h) (Or.inl ⟨by rfl, ?_⟩) (by assumption) ?_
                    rotate_left
                    · intro w hSw
                      (try dsimp only at hSw)
                      go_simp
                      all_goals with_reducible rfl
                    try simp only [Act.put, List.getElem_toArray, List.getElem_cons_succ, List.getElem_cons_zero, List.setIfInBounds_toArray, List.set_cons_zero, List.set_cons_succ]
                    refine wpAnyH_take (i := 19) (v := ?_) rfl (by kernel_rfl) (by kernel_rfl) (by kernel_rfl) (fun _ _ _ h => h) (Or.inl ⟨by rfl, ?_⟩) (by assumption) ?_
                    rotate_left
                    · intro w hSw
                      (try dsimp only at hSw)
                      go_simp
                      all_goals with_reducible rfl
                    try simp only [Act.put, List.getElem_toArray, List.getElem_cons_succ, List.getElem_cons_zero, List.setIfInBounds_toArray, List.set_cons_zero, List.set_cons_succ]
                    refine wpAnyH_ready (rs := [14]) (by kernel_rfl) (by simp) ?_
                    refine AllReadyH.cons rfl (fun K hK => ?_) AllReadyH.nil
                    rw [if_pos (by rfl)]
                    go_simp
                    have v0 : (w7.drew.alloc (.cells #[.int .i64 f.ty, .int .i64 f.seq, .slice ba f.body.length bc] 36)).cell? ⟨bx, 0, none⟩ = some (.int .i64 f.ty) := (World.cell?_alloc_past _ _ _ hlt1).trans u0
                    have v1 : (w7.drew.alloc (.cells #[.int .i64 f.ty, .int .i64 f.seq, .slice ba f.body.length bc] 36)).cell? ⟨bx, 1, none⟩ = some (.int .i64 f.seq) := (World.cell?_alloc_past _ _ _ hlt1).trans u1
                    have v2 : (w7.drew.alloc (.cells #[.int .i64 f.ty, .int .i64 f.seq, .slice ba f.body.length bc] 36)).cell? ⟨bx, 2, none⟩ = some (.slice ba f.body.length bc) := (World.cell?_alloc_past _ _ _ hlt1).trans u2
                    have hl1 : bx < (w7.drew.alloc (.cells #[.int .i64 f.ty, .int .i64 f.seq, .slice ba f.body.length bc] 36)).heap.size := by simp at hlt1 ⊢; omega
                    refine hK.out _ _ ?_ (fun hHeld => ?_)
                    · exact ⟨v0, v1, v2⟩
                    clear hK K
                    try simp only [Act.put, List.getElem_toArray, List.getElem_cons_succ, List.getElem_cons_zero, List.setIfInBounds_toArray, List.set_cons_zero, List.set_cons_succ]
                    refine wpAnyH_ready (rs := [20]) (by kernel_rfl) (by simp) ?_
                    refine AllReadyH.cons rfl (fun K hK => ?_) AllReadyH.nil
                    rw [if_pos (by rfl)]
                    go_simp
                    go_at_call 18
                    refine SM.out.mono ?_
                    rintro e w8 ⟨rfl, hb8⟩
                    have z0 := (hb8.cell (p := ⟨bx, 0, none⟩) hl1).trans v0
                    have z1 := (hb8.cell (p := ⟨bx, 1, none⟩) hl1).trans v1
                    have z2 := (hb8.cell (p := ⟨bx, 2, none⟩) hl1).trans v2
                    refine hK.out _ _ ?_ (fun hHeld => ?_)
                    · exact ⟨z0, z1, z2⟩
                    clear hK K
                    try simp only [Act.put, List.getElem_toArray, List.getElem_cons_succ, List.getElem_cons_zero, List.setIfInBounds_toArray, List.set_cons_zero, List.set_cons_succ]
                    have K8 := Lib.hid (HQ.out.1.on (HT.out.2.trans (hb8.mono HT.out.2.size)))
                    clear v0 v1 v2 u0 u1 u2 hl1 hlt1 hb8
                    refine wpAnyH_take (i := 21) (v := ?_) rfl (by kernel_rfl) (by kernel_rfl) (by kernel_rfl) (fun _ _ _ h => h) (Or.inl ⟨by rfl, ?_⟩) (by assumption) ?_
                    rotate_left
                    · intro w hSw
                      (try dsimp only at hSw)
                      go_simp
                      all_goals with_reducible rfl
                    try simp only [Act.put, List.getElem_toArray, List.getElem_cons_succ, List.getElem_cons_zero, List.setIfInBounds_toArray, List.set_cons_zero, List.set_cons_succ]
                    refine wpAnyH_take (i := 22) (v := ?_) rfl (by kernel_rfl) (by kernel_rfl) (by kernel_rfl) (fun _ _ _ h => h) (Or.inl ⟨by rfl, ?_⟩) (by assumption) ?_
                    rotate_left
                    · intro w hSw
                      (try dsimp only at hSw)
                      go_simp
                      all_goals with_reducible rfl
                    try simp only [Act.put, List.getElem_toArray, List.getElem_cons_succ, List.getElem_cons_zero, List.setIfInBounds_toArray, List.set_cons_zero, List.set_cons_succ]
                    refine wpAnyH_take (i := 23) (v := ?_) rfl (by kernel_rfl) (by kernel_rfl) (by kernel_rfl) (fun _ _ _ h => h) (Or.inl ⟨by rfl, ?_⟩) (by assumption) ?_
                    rotate_left
                    · intro w hSw
                      (try dsimp only at hSw)
                      go_simp
                      all_goals with_reducible rfl
                    try simp only [Act.put, List.getElem_toArray, List.getElem_cons_succ, List.getElem_cons_zero, List.setIfInBounds_toArray, List.set_cons_zero, List.set_cons_succ]
                    refine wpAnyH_done (by kernel_rfl) ?_ _
                    clear hHeld z0 z1 z2
                    go_wp2_with fail
                    go_roundw
                    case rel => exact ⟨p + 2, by omega, by go_num, K8.out⟩
                    case measure => simp [intOf] <;> omega
end Go.Proofs.YtcmgefccihehkaaDoor

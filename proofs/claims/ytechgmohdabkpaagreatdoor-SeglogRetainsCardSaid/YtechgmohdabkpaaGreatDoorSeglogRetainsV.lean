/- SeglogRetains: the walk. -/
import Derived.Test.YtechgmohdabkpaaGreatDoorCka
import Derived.Test.YtechgmohdabkpaaGreatDoorCkb
import Derived.Test.YtechgmohdabkpaaGreatDoorCkc
import Derived.Test.YtechgmohdabkpaaGreatDoorCkd
import Derived.Test.YtechgmohdabkpaaGreatDoorCke
import Derived.Test.YtechgmohdabkpaaGreatDoorCkf
import Derived.Test.YtechgmohdabkpaaGreatDoorCkg
import Derived.Test.YtechgmohdabkpaaGreatDoorCkh
import Derived.Test.YtechgmohdabkpaaGreatDoorCki
import Derived.Test.YtechgmohdabkpaaGreatDoorCkj
import Derived.Test.YtechgmohdabkpaaGreatDoorCkk
import Derived.Test.YtechgmohdabkpaaGreatDoorCkl
import Derived.Test.YtechgmohdabkpaaGreatDoorCkm
import Derived.BigQuiet
import Derived.Deep.QuietTactic
import Derived.Deep.CutRange
import Derived.Lib.MinMax
namespace Go.Proofs.YtechgmohdabkpaaGreatDoor
set_option linter.unusedSimpArgs false
set_option linter.unusedVariables false
open Go.RowKit Go.Sort Go.Maps
open Crc Frm
open Sgn
attribute [local go_sem] Oper.semAt_some

/-- The log behind k calls of Append. -/
def RetR (w1 : World) (dp lp n len : Nat) (i : Value) (wr : World) : Prop :=
  ∃ (k : Nat) (g : Lg) (t : St) (D : Nat → Prop) (sa : Option Addr) (sc : Nat) (fs : List Fr) (S : Int), k ≤ len ∧ i = .int .i64 (k : Int) ∧ LK w1 wr dp lp n g t D sa sc ∧ LDur g t fs S ∧ Calm t ∧ Exact g t ∧ Slim (177 + 388 * k) t ∧ t.room = 60000

set_option linter.unusedSimpArgs false in
set_option maxRecDepth 100000 in
set_option maxHeartbeats 6400000 in
theorem seglogRetains_walk {nb : Int} (hnb : 0 ≤ nb ∧ nb ≤ 255) {a : Option Addr} {len cap : Nat} {bss : List (List Nat)} {seq : Int} {w : World} (hL : Laid w) (ho : Sls w w.heap.size a len cap bss) :
    Calls Tryz.prog 5 #[.int .u8 nb, .slice a len cap, .int .i64 seq] w fun e w' => e = .returned (.bool true) ∧ Below w.heap.size w w' := by
  obtain ⟨m, rfl⟩ := Int.eq_ofNat_of_zero_le hnb.1
  have hmx := ho.max
  have hle := ho.le
  unfold maxLen at hmx
  have HO := Lib.hid ho
  have v2 : IntKind.i64.wrap (m : Int) = (m : Int) := by rw [IntKind.wrap_i64]; omega
  have v3 : IntKind.i64.wrap (64 + (m : Int)) = ((64 + m : Nat) : Int) := by rw [IntKind.wrap_i64]; omega
  clear ho
  go_enter Tryz.func5, Tryz.ntmps5
  go_wp2_with fail
  refine (head6_any _ hL).mono ?_
  rintro e w1 ⟨rfl, b1⟩
  have B1 := Lib.hid b1
  have L1 := Lib.hid (hL.on b1)
  clear b1 hL
  have N1 := Lib.hid (DK.new 60000 (by omega) w1)
  go_wp2_with fail
  refine N1.out.mono ?_
  rintro e w2 ⟨dp, O, rfl, hk, hb2, _⟩
  have K := Lib.hid hk
  have B2 := Lib.hid (B1.out.trans (hb2.mono B1.out.size))
  clear hk hb2 N1
  by_cases h30 : (30 : Int) < (len : Int)
  · have d3 : decide ((30 : Int) < (len : Int)) = true := decide_eq_true h30
    go_wp2
    go_ret
    exact ⟨rfl, B2.out⟩
  have d3 : decide ((30 : Int) < (len : Int)) = false := decide_eq_false h30
  have OP := Lib.hid (lgopen_any K.out L1.out (size := 64 + m) (by omega) (by omega))
  obtain ⟨t', hop, hdur, hcm, hex, hsl, hrm⟩ := open_60000 (size := ((64 + m : Nat) : Int)) (by omega) (by omega)
  rw [hop] at OP
  go_wp2_with fail
  refine OP.out.mono ?_
  rintro e w4 hO
  obtain ⟨lp, D, sa, sc, rfl, hk, _, hge, _⟩ := hO.some_
  have R0 : Hid (RetR w1 dp lp (64 + m) len (.int .i64 (0 : Int)) w4) := Lib.hid ⟨0, _, _, D, sa, sc, [], 0, Nat.zero_le _, rfl, hk, hdur, hcm, hex, hsl, hrm⟩
  clear hO hop hdur hk hge OP K hcm hex hsl hrm
  go_wp2_with fail
  go_loopw [11] (fun i wr => RetR w1 dp lp (64 + m) len i wr) (fun i _ => len - (intOf i).toNat)
  case atStart => exact R0.out
  case round =>
    obtain ⟨k, g, t, D, sa, sc, fs, S, hk, rfl, hkd, hdur, hcm, hex, hsl, hrm⟩ := hrel
    have HB := B1.out.trans (hkd.dk.below.mono B1.out.size)
    by_cases hlt : k < len
    · obtain ⟨b, o, rfl, hbl, hc⟩ := HO.out.at_ (by omega)
      have hbk : bss[k]? = some (bss[k]'(by rw [HO.out.length]; exact hlt)) := List.getElem?_eq_getElem (by rw [HO.out.length]; exact hlt)
      obtain ⟨bs, hbs⟩ : ∃ bs, bs = bss[k]'(by rw [HO.out.length]; exact hlt) := ⟨_, rfl⟩
      rw [← hbs] at hbk
      obtain ⟨ba, bc, hcell, hsb⟩ := hc k bs hbk
      have e0 := (HB.cell (p := ⟨b, o + k, none⟩) hbl).trans hcell
      have hlt' : (k : Int) < (len : Int) := by omega
      have hk0 : (0 : Int) ≤ (k : Int) := by omega
      obtain ⟨n, hn⟩ : ∃ n, n = min bs.length 200 := ⟨_, rfl⟩
      have mn : min (bs.length : Int) 200 = (n : Int) := by omega
      have hnb : n ≤ bs.length := by omega
      have hn2 : n ≤ 200 := by omega
      have hlen : (bs.take n).length = n := by rw [List.length_take]; omega
      have kcut : ∀ x, (Instr.slice 38 (.slice ba bs.length bc) none (some (.int .i64 (n : Int))) none).run Tryz.prog x = .ok (.slice ba n bc) x := run_cut_to (P := Tryz.prog) 38 5 Tryz.underlying38 info_u8 ba bs.length bc n (by have := hsb.le; omega)
      have APP : Hid (∀ kind, Calls Tryz.prog 26 #[.pointer (some ⟨lp, 0, none⟩), .int .i64 kind, .slice ba n bc] wr.drew fun e w' => ∃ v1 v2, e = .returned (.tuple #[.int .i64 v1, .int .i64 v2]) ∧ RetR w1 dp lp (64 + m) len (.int .i64 ((k + 1 : Nat) : Int)) w' ∧ Below w1.heap.size w1 w') := fun kind => by
        have hx : Below wr.heap.size wr wr.drew := Below.drew (Below.refl _ _)
        have h1 := hkd.on hx
        have ha := lgappend_any h1 hdur.few.1 L1.out kind (bs.take n) ba bc (by rw [hlen]; exact ((((hsb.take hnb).below HB (Nat.le_refl _)).more HB.size).below hx (Nat.le_refl _)).more hx.size) (by omega)
        rw [hlen] at ha
        refine ha.mono ?_
        rintro e w' ⟨he, D', sa', sc', hk', _, _⟩
        have hd := hdur.append (64 + m) kind (bs.take n)
        have hs := (slim_append (size := 64 + m) (g := g) hsl kind (body := bs.take n) (fun c hc => hsb.byte c (List.mem_of_mem_take hc))).more (c := 177 + 388 * (k + 1)) (by rw [hlen]; omega)
        refine ⟨_, _, he, ?_, hk'.dk.below⟩
        by_cases e0 : (lgAppend (64 + m) g t kind (bs.take n)).1.2 = 0
        · exact ⟨k + 1, _, _, D', sa', sc', _, S, hlt, rfl, hk', hd.2 e0, ck_append hcm _ _ _ _, exact_append hdur hcm hex _ _ _, hs, (append_room _ _ _ _ _).trans hrm⟩
        · exact ⟨k + 1, _, _, D', sa', sc', _, S, hlt, rfl, hk', hd.1 e0, ck_append hcm _ _ _ _, exact_append hdur hcm hex _ _ _, hs, (append_room _ _ _ _ _).trans hrm⟩
      have HC := Lib.hid (And.intro hbl hcell)
      have HK := Lib.hid (And.intro hlt hn)
      clear hkd hdur hcm hex hsl hrm HB hlt hc hcell hsb hbs hbk hlen hnb hn
      go_wp2_with fail
      refine wp_region_held_drew (S := fun x => x.cell? ⟨b, o + k, none⟩ = some (.slice ba bs.length bc)) (by kernel_rfl) e0 (fun hHeld => ?_)
      refine wpAnyH_take (i := 0) (v := ?_) rfl (by kernel_rfl) (by kernel_rfl) (by kernel_rfl) (fun _ _ _ h => h) (Or.inl ⟨by rfl, ?_⟩) (by assumption) ?_
      rotate_left
      · intro w hSw
        (try dsimp only at hSw)
        go_simp
        all_goals with_reducible rfl
      try simp only [Act.put, List.getElem_toArray, List.getElem_cons_succ, List.getElem_cons_zero, List.setIfInBounds_toArray, List.set_cons_zero, List.set_cons_succ]
      refine wpAnyH_take (i := 1) (v := ?_) rfl (by kernel_rfl) (by kernel_rfl) (by kernel_rfl) (fun _ _ _ h => h) (Or.inl ⟨by rfl, ?_⟩) (by assumption) ?_
      rotate_left
      · intro w hSw
        (try dsimp only at hSw)
        go_simp
        all_goals with_reducible rfl
      try simp only [Act.put, List.getElem_toArray, List.getElem_cons_succ, List.getElem_cons_zero, List.setIfInBounds_toArray, List.set_cons_zero, List.set_cons_succ]
      refine wpAnyH_take (i := 2) (v := ?_) rfl (by kernel_rfl) (by kernel_rfl) (by kernel_rfl) (fun _ _ _ h => h) (Or.inl ⟨by rfl, ?_⟩) (by assumption) ?_
      rotate_left
      · intro w hSw
        (try dsimp only at hSw)
        go_simp
        all_goals with_reducible rfl
      try simp only [Act.put, List.getElem_toArray, List.getElem_cons_succ, List.getElem_cons_zero, List.setIfInBounds_toArray, List.set_cons_zero, List.set_cons_succ]
      refine wpAnyH_take (i := 3) (v := ?_) rfl (by kernel_rfl) (by kernel_rfl) (by kernel_rfl) (fun _ _ _ h => h) (Or.inl ⟨by rfl, ?_⟩) (by assumption) ?_
      rotate_left
      · intro w hSw
        (try dsimp only at hSw)
        go_simp
        all_goals with_reducible rfl
      try simp only [Act.put, List.getElem_toArray, List.getElem_cons_succ, List.getElem_cons_zero, List.setIfInBounds_toArray, List.set_cons_zero, List.set_cons_succ]
      refine wpAnyH_take (i := 4) (v := ?_) rfl (by kernel_rfl) (by kernel_rfl) (by kernel_rfl) (fun _ _ _ h => h) (Or.inl ⟨by rfl, ?_⟩) (by assumption) ?_
      rotate_left
      · intro w hSw
        (try dsimp only at hSw)
        go_simp
        all_goals with_reducible rfl
      try simp only [Act.put, List.getElem_toArray, List.getElem_cons_succ, List.getElem_cons_zero, List.setIfInBounds_toArray, List.set_cons_zero, List.set_cons_succ]
      refine wpAnyH_take (i := 5) (v := ?_) rfl (by kernel_rfl) (by kernel_rfl) (by kernel_rfl) (fun _ _ _ h => h) (Or.inl ⟨by rfl, ?_⟩) (by assumption) ?_
      rotate_left
      · intro w hSw
        (try dsimp only at hSw)
        go_simp
        all_goals with_reducible rfl
      try simp only [Act.put, List.getElem_toArray, List.getElem_cons_succ, List.getElem_cons_zero, List.setIfInBounds_toArray, List.set_cons_zero, List.set_cons_succ]
      refine wpAnyH_take (i := 6) (v := ?_) rfl (by kernel_rfl) (by kernel_rfl) (by kernel_rfl) (fun _ _ _ h => h) (Or.inl ⟨by rfl, ?_⟩) (by assumption) ?_
      rotate_left
      · intro w hSw
        (try dsimp only at hSw)
        go_simp
        all_goals with_reducible rfl
      try simp only [Act.put, List.getElem_toArray, List.getElem_cons_succ, List.getElem_cons_zero, List.setIfInBounds_toArray, List.set_cons_zero, List.set_cons_succ]
      refine wpAnyH_take (i := 7) (v := ?_) rfl (by kernel_rfl) (by kernel_rfl) (by kernel_rfl) (fun _ _ _ h => h) (Or.inl ⟨by rfl, ?_⟩) (by assumption) ?_
      rotate_left
      · intro w hSw
        (try dsimp only at hSw)
        go_simp
        all_goals with_reducible rfl
      try simp only [Act.put, List.getElem_toArray, List.getElem_cons_succ, List.getElem_cons_zero, List.setIfInBounds_toArray, List.set_cons_zero, List.set_cons_succ]
      refine wpAnyH_take (i := 8) (v := ?_) rfl (by kernel_rfl) (by kernel_rfl) (by kernel_rfl) (fun _ _ _ h => h) (Or.inl ⟨by rfl, ?_⟩) (by assumption) ?_
      rotate_left
      · intro w hSw
        (try dsimp only at hSw)
        go_simp
        all_goals with_reducible rfl
      try simp only [Act.put, List.getElem_toArray, List.getElem_cons_succ, List.getElem_cons_zero, List.setIfInBounds_toArray, List.set_cons_zero, List.set_cons_succ]
      refine wpAnyH_take (i := 9) (v := ?_) rfl (by kernel_rfl) (by kernel_rfl) (by kernel_rfl) (fun _ _ _ h => h) (Or.inl ⟨by rfl, ?_⟩) (by assumption) ?_
      rotate_left
      · intro w hSw
        (try dsimp only at hSw)
        go_simp
        all_goals with_reducible rfl
      try simp only [Act.put, List.getElem_toArray, List.getElem_cons_succ, List.getElem_cons_zero, List.setIfInBounds_toArray, List.set_cons_zero, List.set_cons_succ]
      refine wpAnyH_take (i := 10) (v := ?_) rfl (by kernel_rfl) (by kernel_rfl) (by kernel_rfl) (fun _ _ _ h => h) (Or.inl ⟨by rfl, ?_⟩) (by assumption) ?_
      rotate_left
      · intro w hSw
        (try dsimp only at hSw)
        go_simp
        all_goals with_reducible rfl
      try simp only [Act.put, List.getElem_toArray, List.getElem_cons_succ, List.getElem_cons_zero, List.setIfInBounds_toArray, List.set_cons_zero, List.set_cons_succ]
      refine wpAnyH_take (i := 11) (v := ?_) rfl (by kernel_rfl) (by kernel_rfl) (by kernel_rfl) (fun _ _ _ h => h) (Or.inl ⟨by rfl, ?_⟩) (by assumption) ?_
      rotate_left
      · intro w hSw
        (try dsimp only at hSw)
        go_simp
        all_goals with_reducible rfl
      try simp only [Act.put, List.getElem_toArray, List.getElem_cons_succ, List.getElem_cons_zero, List.setIfInBounds_toArray, List.set_cons_zero, List.set_cons_succ]
      refine wpAnyH_take (i := 12) (v := ?_) rfl (by kernel_rfl) (by kernel_rfl) (by kernel_rfl) (fun _ _ _ h => h) (Or.inl ⟨by rfl, ?_⟩) (by assumption) ?_
      rotate_left
      · intro w hSw
        (try dsimp only at hSw)
        go_simp
        all_goals with_reducible rfl
      try simp only [Act.put, List.getElem_toArray, List.getElem_cons_succ, List.getElem_cons_zero, List.setIfInBounds_toArray, List.set_cons_zero, List.set_cons_succ]
      refine wpAnyH_take (i := 13) (v := ?_) rfl (by kernel_rfl) (by kernel_rfl) (by kernel_rfl) (fun _ _ _ h => h) (Or.inl ⟨by rfl, ?_⟩) (by assumption) ?_
      rotate_left
      · intro w hSw
        (try dsimp only at hSw)
        go_simp
        all_goals with_reducible rfl
      try simp only [Act.put, List.getElem_toArray, List.getElem_cons_succ, List.getElem_cons_zero, List.setIfInBounds_toArray, List.set_cons_zero, List.set_cons_succ]
      refine wpAnyH_take (i := 14) (v := ?_) rfl (by kernel_rfl) (by kernel_rfl) (by kernel_rfl) (fun _ _ _ h => h) (Or.inl ⟨by rfl, ?_⟩) (by assumption) ?_
      rotate_left
      · intro w hSw
        (try dsimp only at hSw)
        go_simp
        all_goals with_reducible rfl
      try simp only [Act.put, List.getElem_toArray, List.getElem_cons_succ, List.getElem_cons_zero, List.setIfInBounds_toArray, List.set_cons_zero, List.set_cons_succ]
      refine wpAnyH_ready (rs := [15]) (by kernel_rfl) (by simp) ?_
      refine AllReadyH.cons rfl (fun K hK => ?_) AllReadyH.nil
      rw [if_pos (by rfl)]
      go_simp
      go_at_call 26
      refine (APP.out _).mono ?_
      rintro e w5 ⟨v1, v2, rfl, hR, hB⟩
      refine hK.out _ _ ?_ (fun hHeld => ?_)
      · exact (((B1.out.trans (hB.mono B1.out.size)).cell (p := ⟨b, o + k, none⟩) HC.out.1).trans HC.out.2)
      clear hK K
      try simp only [Act.put, List.getElem_toArray, List.getElem_cons_succ, List.getElem_cons_zero, List.setIfInBounds_toArray, List.set_cons_zero, List.set_cons_succ]
      refine wpAnyH_done (by kernel_rfl) ?_ _
      have RR := Lib.hid hR
      clear hHeld hR hB APP
      go_wp2_with fail
      go_roundw
      case rel => (try rw [show IntKind.i64.wrap ((k : Int) + 1) = ((k + 1 : Nat) : Int) from by rw [IntKind.wrap_i64]; omega]); exact RR.out
      case measure => have := HK.out.1; simp [intOf]; omega
    · have hlt' : ¬ (k : Int) < (len : Int) := by omega
      have hk30 : k ≤ 30 := by omega
      have CF := Lib.hid (frames_got hkd L1.out (by have := hdur.few.2; omega) hdur.inv.frames)
      have DU := Lib.hid (And.intro hdur (And.intro hcm (And.intro hex (And.intro hsl hrm))))
      have K := Lib.hid hkd
      have RD := Lib.hid (retain_done hdur hcm hex hsl (by rw [hrm]; omega) seq)
      obtain ⟨kk, fa, fb, q1, q2, q3, q4, q5, q6, q7, q8⟩ := retain_says hdur seq RD.out.1
      have RS := Lib.hid (And.intro q1 (And.intro q2 (And.intro q3 (And.intro q4 (And.intro q5 (And.intro q6 (And.intro q7 q8)))))))
      clear hkd hdur hcm hex hsl hrm q1 q2 q3 q4 q5 q6 q7 q8 HB
      go_wp2_with fail
      refine CF.out.mono ?_
      rintro e w5 ⟨a5, c5, rfl, f5, h5⟩
      have K5 := Lib.hid (K.out.on h5)
      have F5 := Lib.hid f5
      have SG := Lib.hid (segments_any K5.out (by have := DU.out.1.few.2; omega))
      have LT0 : Hid (∀ q, lO D lp sa q → q < wr.heap.size) := K.out.lt
      clear f5 CF
      go_wp2_with fail
      refine SG.out.mono ?_
      rintro e w6 ⟨vv, rfl, ho6, h6⟩
      obtain ⟨a6, c6, rfl, r6, n6⟩ := OwnV.out_ ho6
      have K6 := Lib.hid (K5.out.on h6)
      have F6 := Lib.hid (F5.out.on h6)
      have R6 := Lib.hid (And.intro r6 n6)
      have NX := Lib.hid (lgnext_any K6.out)
      have RT := Lib.hid (retain_any K6.out L1.out DU.out.1.few.1 (by have := DU.out.1.few.2; omega) seq)
      clear ho6 r6 n6 SG
      go_wp2_with fail
      refine NX.out.mono ?_
      rintro e w9 ⟨rfl, rfl⟩
      go_wp2_with fail
      refine RT.out.mono ?_
      rintro e w7 ⟨rfl, hmv⟩
      obtain ⟨D7, sa7, sc7, k7, b7, f7⟩ := hmv.far
      rw [RD.out.1]
      have K7 := Lib.hid k7
      have B7 := Lib.hid (And.intro b7 f7)
      have HT := Lib.hid (And.intro RS.out.2.2.2.1 RD.out.2)
      have eg := RS.out.2.2.1
      obtain ⟨gd, hgd⟩ : ∃ gd, gd = g.segs.drop kk := ⟨_, rfl⟩
      rw [← hgd] at eg
      have RSB := Lib.hid (And.intro RS.out.1 (And.intro RS.out.2.1 (And.intro RS.out.2.2.2.2.1 (And.intro RS.out.2.2.2.2.2.1 (And.intro RS.out.2.2.2.2.2.2.1 RS.out.2.2.2.2.2.2.2)))))
      rw [← hgd] at RSB
      rw [eg] at K7 HT
      generalize (lgRetain g t seq).2.1 = t7 at *
      have HGD := Lib.hid hgd
      clear RS RD eg hgd
      have SG := Lib.hid (segments_any K7.out (by have := HT.out.1.few.2; omega))
      simp only [] at SG
      clear hmv k7 b7 f7 RT NX
      go_wp2_with fail
      refine SG.out.mono ?_
      rintro e w8 ⟨vv, rfl, ho8, h8⟩
      obtain ⟨a8, c8, rfl, r8, n8⟩ := OwnV.out_ ho8
      have K8 := Lib.hid (K7.out.on h8)
      have hlt0 := LT0.out
      have R68 := Lib.hid ((Row.but R6.out.1 B7.out.1 (fun _ k o e hk => by have := R6.out.2 k o e; have := hlt0 k hk; have := h5.size; omega)).below h8 (Nat.le_refl _) |>.more h8.size)
      have F8 := Lib.hid ((F6.out.but B7.out.1 (fun k h1 _ hk => by have := hlt0 k hk; omega)).on h8)
      have R8 := Lib.hid r8
      clear ho8 n8 r8 SG R6 F6 hlt0
      have hml : gd.length = g.segs.length - kk := by rw [HGD.out, List.length_drop]
      have hkk := RSB.out.1
      have hl40 := DU.out.1.few.2
      have hgm : Hid (mOk gd = true → True) := fun _ => trivial
      have RM := Lib.hid (fun (x : World) (hb : Below w8.heap.size w8 x) => rsame_any gd (g.segs.drop kk) a8 (fromA a6 c6 kk) gd.length (g.segs.length - kk) c8 (c6 - kk) x (R8.out.on_ hb) ((R68.out.on_ hb).from_ (by omega) rfl) rfl (by rw [List.length_drop]))
      rw [HGD.out, decide_eq_true rfl, ← HGD.out] at RM
      have cutI : ∀ x : World, (Instr.slice 50 (.slice a6 g.segs.length c6) (some (.int .i64 (kk : Int))) none none).run Tryz.prog x = .ok (.slice (fromA a6 c6 kk) (g.segs.length - kk) (c6 - kk)) x := fun x => run_cut1_from (P := Tryz.prog) 50 2 Tryz.underlying50 info_i64m a6 g.segs.length c6 kk (by omega) x
      obtain ⟨b8, o8, hb8, hb8l, hc8⟩ := R8.out.at_ (by omega)
      subst hb8
      have cn0 : w8.cell? ⟨b8, o8, none⟩ = some (.int .i64 (gd.getD 0 0)) := hc8 0 (by omega)
      have cn1 : 1 < gd.length → w8.cell? ⟨b8, o8 + 1, none⟩ = some (.int .i64 (gd.getD 1 0)) := fun h => hc8 1 (by omega)
      have HC8 := Lib.hid (And.intro hb8l cn1)
      have q5 := RSB.out.2.2.1
      have q6 := RSB.out.2.2.2.1
      have e0 : gd.headD 0 = gd.getD 0 0 := by cases gd <;> rfl
      rw [e0] at q5
      have HQ := Lib.hid (And.intro q5 q6)
      clear hc8 hb8l cn1 q5 q6 e0 hgm
      have HNM : Hid ((strKeys t7.D).length = gd.length + 1) := exact_names HT.out.1 K8.out.dk.good HT.out.2
      generalize gd.length = M at *
      generalize g.segs.length = L at *
      generalize gd.getD 0 0 = n0 at *
      generalize gd.getD 1 0 = n1 at *
      have hsub : (L : Int) - (M : Int) = (kk : Int) := by omega
      have HML := Lib.hid (And.intro hml (And.intro hkk hl40))
      clear hml hkk hl40
      have hM0 : 0 < M := by have := HML.out; omega
      have d1 : decide ((kk : Int) < 0) = false := by simp
      have d2 : decide ((M : Int) < 1) = false := by simp; omega
      have RM0 := Lib.hid (RM.out w8 (RowKit.Below.refl _ _))
      have HIN := Lib.hid (And.intro RSB.out.2.1 RSB.out.2.2.2.2)
      have hk40 : kk ≤ 40 := by have := HML.out; omega
      have hL4 : L ≤ 40 := by have := HML.out; omega
      have hM4 : M ≤ 40 := by have := HML.out; omega
      clear RM
      generalize fromA a6 c6 kk = a6k at *
      generalize hlk : L - kk = lk at *
      generalize c6 - kk = ck at *
      clear hlk
      go_upto_region 19 with fail
      go_cut [118] from 81 to 117 (fun v wx => v = .bool false ∧ RowKit.Below w8.heap.size w8 wx)
      case first =>
        go_wp2_with fail
        refine RM0.out.mono ?_
        rintro e w9 ⟨rfl, h9⟩
        have H9 := Lib.hid h9
        have cm0 := (h9.cell (p := ⟨b8, o8, none⟩) HC8.out.1).trans cn0
        by_cases hM1 : 1 < M
        · have cm1 := (h9.cell (p := ⟨b8, o8 + 1, none⟩) HC8.out.1).trans (HC8.out.2 hM1)
          have d5 : decide (1 < (M : Int)) = true := by simp; omega
          have hM1' : (1 : Int) < (M : Int) := by omega
          have d6 : decide (n1 ≤ seq) = false := by have := HQ.out.2 hM1; simp; omega
          by_cases hk0 : kk = 0
          · have d3 : decide (0 < (kk : Int)) = false := by simp; omega
            have d3n : decide (0 < kk) = false := by simp; omega
            have hk0' : ¬ 0 < kk := by omega
            clear h9 cn0 hk0
            go_wp2_with fail
            go_meet
            exact ⟨rfl, H9.out⟩
          · have hkp : 0 < kk := by omega
            have d4 : decide (seq < n0) = false := by have := HQ.out.1 (by omega); simp; omega
            clear h9 cn0 hk0
            go_wp2_with fail
            go_meet
            exact ⟨rfl, H9.out⟩
        · have d5 : decide (1 < (M : Int)) = false := by simp; omega
          by_cases hk0 : kk = 0
          · have d3 : decide (0 < (kk : Int)) = false := by simp; omega
            have d3n : decide (0 < kk) = false := by simp; omega
            have hk0' : ¬ 0 < kk := by omega
            clear h9 cn0 hk0
            go_wp2_with fail
            go_meet
            exact ⟨rfl, H9.out⟩
          · have hkp : 0 < kk := by omega
            have d4 : decide (seq < n0) = false := by have := HQ.out.1 (by omega); simp; omega
            clear h9 cn0 hk0
            go_wp2_with fail
            go_meet
            exact ⟨rfl, H9.out⟩
      case rest =>
      obtain ⟨rfl, h9⟩ := hcut
      generalize wc = w9 at *
      have K9 := Lib.hid (K8.out.on h9)
      have F9 := Lib.hid (F8.out.on h9)
      have CF2 := Lib.hid (frames_got K9.out L1.out (by have := HT.out.1.few.2; omega) HT.out.1.inv.frames)
      have hfs := HIN.out.1
      have hfl : fs.length = fa.length + fb.length := by rw [hfs, List.length_append]
      have hfm := F9.out.max
      have hfe := F9.out.le
      unfold maxLen at hfm
      have FQ := F9.out.frs
      rw [hfs, List.length_append] at FQ
      have FC := Lib.hid (fun (x : World) (hb : RowKit.Below w9.heap.size w9 x) => (FQ.below hb (Nat.le_refl _)).more hb.size)
      have HFA := Lib.hid (fun f hf => HIN.out.2.2 f hf)
      clear RM0 HC8 cn0 d1 d2 hM0 hsub cutI hfs FQ F9 HIN
      rw [hfl] at hfe ⊢
      clear hfl
      obtain ⟨A, hA⟩ : ∃ A, A = fa.length := ⟨_, rfl⟩
      rw [← hA] at FC hfe ⊢
      have HA := Lib.hid hA.symm
      clear hA
      go_wp2_with fail
      refine CF2.out.mono ?_
      rintro e wa ⟨aa, ca, rfl, fa9, ha⟩
      have Ka := Lib.hid (K9.out.on ha)
      have Fa := Lib.hid fa9.frs
      have eAB : A + fb.length - A = fb.length := by omega
      have cutw : ∀ x : World, (Instr.slice 46 (.slice a5 (A + fb.length) c5) (some (.int .i64 (A : Int))) none none).run Tryz.prog x = .ok (.slice (cutF a5 c5 A) (A + fb.length - A) (c5 - A)) x := fun x => run_cutF_from (P := Tryz.prog) 46 65 Tryz.underlying46 info_frame a5 (A + fb.length) c5 A (by omega) x
      have FB := Lib.hid (fun (x : World) (hb : RowKit.Below wa.heap.size wa x) => (FC.out x (ha.trans (hb.mono ha.size))).behind)
      rw [HA.out, eAB] at FB
      rw [eAB] at cutw
      have hBm : A + fb.length ≤ 9223372036854775807 := by omega
      have SA := Lib.hid (fun (x : World) (hb : RowKit.Below wa.heap.size wa x) => same_any aa fb.length ca fb (cutF a5 c5 A) fb.length (c5 - A) fb x ((Fa.out.below hb (Nat.le_refl _)).more hb.size) (FB.out x hb))
      rw [decide_eq_true rfl] at SA
      have NX9 := Lib.hid (lgnext_any Ka.out)
      have DL := Lib.hid (fun (x : World) (hb : RowKit.Below wa.heap.size wa x) => (Ka.out.on hb).dk.list)
      have HWA := Lib.hid (B1.out.trans (Ka.out.dk.below.mono B1.out.size))
      have HAB := Lib.hid ha
      simp only [] at NX9
      clear eAB fa9 ha hfe hfm CF2 FB Fa
      generalize fb.length = B at *
      generalize cutF a5 c5 A = a5k at *
      generalize c5 - A = c5k at *
      have hle : (B : Int) ≤ (A : Int) + (B : Int) := by omega
      go_wp2_with fail
      refine (qd3 NX9.out).mono ?_
      rintro e wz ⟨rfl, rfl⟩
      go_wp2_with fail
      refine (SA.out _ (RowKit.Below.refl _ _)).mono ?_
      rintro e wb ⟨rfl, hb⟩
      have HB := Lib.hid hb
      have DLb := Lib.hid (DL.out wb hb)
      have hM4' : M ≤ 40 := hM4
      clear SA NX9 DL cutw
      by_cases hA0 : A = 0
      · have hAe : ((A : Int) + (B : Int) == (B : Int)) = true := by simp; omega
        clear hb
        go_wp2_with fail
        refine DLb.out.mono ?_
        rintro e wd ⟨gn, cn, rfl, _, hd⟩
        rw [HNM.out]
        have HD := Lib.hid (HWA.out.trans ((HB.out.trans (hd.mono HB.out.size)).mono HWA.out.size))
        clear hd
        go_wp2
        go_ret
        exact ⟨rfl, HD.out⟩
      · obtain ⟨f, hf⟩ : ∃ f, fa.getLast? = some f := by
          cases hq : fa.getLast? with
          | none =>
            rw [List.getLast?_eq_none_iff] at hq
            exact absurd (by rw [← HA.out, hq]; rfl) hA0
          | some f => exact ⟨f, rfl⟩
        have hsq := HFA.out f hf
        obtain ⟨bq, oq, hbq, hpq, hcq⟩ := (FC.out wb (HAB.out.trans (hb.mono HAB.out.size))).seq_at hf
        rw [HA.out] at hcq hpq
        obtain ⟨p, hp⟩ : ∃ p, p = A - 1 := ⟨_, rfl⟩
        rw [← hp] at hcq
        have hp1 : (A : Int) - 1 = (p : Int) := by omega
        have hpl : p < A + B := by omega
        have hAe : ((A : Int) + (B : Int) == (B : Int)) = false := by simp; omega
        have hsd : decide (f.seq < seq) = true := decide_eq_true hsq
        subst hbq
        have HX := Lib.hid hA0
        clear hb hp hA0 hf hsq hpq
        generalize f.seq = fq at *
        go_wp2_with fail
        refine DLb.out.mono ?_
        rintro e wd ⟨gn, cn, rfl, _, hd⟩
        rw [HNM.out]
        have HD := Lib.hid (HWA.out.trans ((HB.out.trans (hd.mono HB.out.size)).mono HWA.out.size))
        clear hd
        go_wp2
        go_ret
        exact ⟨rfl, HD.out⟩
end Go.Proofs.YtechgmohdabkpaaGreatDoor

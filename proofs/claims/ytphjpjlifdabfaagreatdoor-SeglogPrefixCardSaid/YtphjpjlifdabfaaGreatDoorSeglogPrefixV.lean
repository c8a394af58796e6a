/- SeglogPrefix: the walk. -/
import Derived.Test.YtphjpjlifdabfaaGreatDoorCka
import Derived.Test.YtphjpjlifdabfaaGreatDoorCkb
import Derived.Test.YtphjpjlifdabfaaGreatDoorCkc
import Derived.Test.YtphjpjlifdabfaaGreatDoorCkd
import Derived.Test.YtphjpjlifdabfaaGreatDoorCke
import Derived.Test.YtphjpjlifdabfaaGreatDoorCkf
import Derived.Test.YtphjpjlifdabfaaGreatDoorCkg
import Derived.Test.YtphjpjlifdabfaaGreatDoorCkh
import Derived.Test.YtphjpjlifdabfaaGreatDoorCki
import Derived.Test.YtphjpjlifdabfaaGreatDoorCkj
import Derived.Test.YtphjpjlifdabfaaGreatDoorCkk
import Derived.Test.YtphjpjlifdabfaaGreatDoorCkl
import Derived.Test.YtphjpjlifdabfaaGreatDoorCkm
import Derived.Test.YtphjpjlifdabfaaGreatDoorPfE
import Derived.Test.YtphjpjlifdabfaaGreatDoorPfF
import Derived.BigQuiet
import Derived.Deep.QuietTactic
namespace Go.Proofs.YtphjpjlifdabfaaGreatDoor
set_option linter.unusedSimpArgs false
set_option linter.unusedVariables false
open Go.RowKit Go.Sort Go.Maps
open Crc Frm
open Sgn
attribute [local go_sem] Oper.semAt_some

theorem OgsIn.at_laterP {w w' : World} {B : Nat} {a : Option Addr} {len cap : Nat} {l : List OgV} (h : OgsIn w B a len cap l) (hb : Below B w w') {k : Nat} (hk : k < len) : ∃ b o op, a = some ⟨b, o, none⟩ ∧ l[k]? = some op ∧
    (w'.cell? ⟨b, o + k * 5, none⟩ = some (.int .i64 op.what) ∧ w'.cell? ⟨b, o + k * 5 + 1, none⟩ = some (.int .i64 op.kind) ∧ w'.cell? ⟨b, o + k * 5 + 2, none⟩ = some (.slice op.ba op.bs.length op.bc) ∧
      w'.cell? ⟨b, o + k * 5 + 3, none⟩ = some (.int .i64 op.n) ∧ w'.cell? ⟨b, o + k * 5 + 4, none⟩ = some (.slice op.ka op.ks.length op.kc)) ∧ OgIn w' B op := by
  have h' := h.below hb (Nat.le_refl _)
  obtain ⟨b, o, e, _, hc⟩ := h'.at_ (by omega)
  have hl := h.length
  have hop : l[k]? = some (l[k]'(by omega)) := List.getElem?_eq_getElem (by omega)
  obtain ⟨hj, hi⟩ := hc k _ hop
  exact ⟨b, o, _, e, hop, ⟨hj 0 (by omega), hj 1 (by omega), hj 2 (by omega), hj 3 (by omega), hj 4 (by omega)⟩, hi⟩
theorem LK.drewP_ {w0 w : World} {dp lp size : Nat} {g : Lg} {t : St} {D : Nat → Prop} {sa : Option Addr} {sc : Nat} (h : LK w0 w dp lp size g t D sa sc) (n : Nat) : LK w0 (w.drewN n) dp lp size g t D sa sc := h.on (below_drewN (Below.refl _ _))
/-- The log behind k calls, and all that was appended. -/
def PrefR (w1 : World) (dp n len : Nat) (x v s i : Value) (wr : World) : Prop :=
  ∃ (k lp : Nat) (g : Lg) (t : St) (D : Nat → Prop) (sa : Option Addr) (sc : Nat) (fs : List Fr) (S : Int) (ts : List FC) (sf A : Nat) (av : Option Addr) (cv : Nat), k ≤ len ∧ i = .int .i64 (k : Int) ∧ x = .pointer (some ⟨lp, 0, none⟩) ∧ s = .int .i64 (sf : Int) ∧ v = .slice av ts.length cv ∧
    LK w1 wr dp lp n g t D sa sc ∧ LDur g t fs S ∧ (sf : Int) ≤ S ∧ AllR wr (lO D lp sa) w1.heap.size (.slice av ts.length cv) ts ∧ g.next = (ts.length : Int) ∧ g.segs.headD 0 = (A : Int) ∧ fs = (ts.map (·.1)).drop A ∧ ts.length ≤ k
/-- How it goes on: the first ones are gone. -/
theorem pref_drop {L fs fs' : List Fr} {A A' j : Nat} (h : fs = L.drop A) (hA : A ≤ L.length) (hj : j ≤ fs.length) (hf : fs' = fs.drop j) (hA' : A' + fs'.length = L.length) : fs' = L.drop A' := by
  have hl : fs.length = L.length - A := by rw [h, List.length_drop]
  have hl' : fs'.length = fs.length - j := by rw [hf, List.length_drop]
  rw [hf, h, List.drop_drop]
  congr 1
  omega
theorem pref_more {L fs : List Fr} {f : Fr} {A : Nat} (h : fs = L.drop A) (hA : A ≤ L.length) : fs ++ [f] = (L ++ [f]).drop A := by
  rw [List.drop_append_of_le_length hA, h]
theorem pref_cut {L fs fs' rest : List Fr} {A M : Nat} (h : fs = L.drop A) (hA : A ≤ L.length) (hf : fs = fs' ++ rest) (hM : M = A + fs'.length) : fs' = (L.take M).drop A := by
  have hl : fs.length = L.length - A := by rw [h, List.length_drop]
  have hl' : fs.length = fs'.length + rest.length := by rw [hf, List.length_append]
  rw [List.drop_take, ← h, hf, hM, show A + fs'.length - A = fs'.length from by omega, List.take_left]
theorem slice_of {w : World} {base : Nat} {v : Value} {ts : List FC} (h : OwnF w base v ts) : ∃ a c, v = .slice a ts.length c := by
  obtain ⟨a, c, hv, _⟩ := h.frs
  exact ⟨a, c, hv⟩

set_option linter.unusedSimpArgs false in
set_option maxRecDepth 100000 in
set_option maxHeartbeats 6400000 in
theorem seglogPrefix_walk {room nb : Int} (hroom : 0 ≤ room ∧ room ≤ 65535) (hnb : 0 ≤ nb ∧ nb ≤ 255) {a : Option Addr} {len cap : Nat} {l : List OgV} {w : World} (hL : Laid w) (ho : OgsIn w w.heap.size a len cap l) :
    Calls Tryz.prog 5 #[.int .u16 room, .int .u8 nb, .slice a len cap] w fun e w' => e = .returned (.bool true) ∧ Below w.heap.size w w' := by
  obtain ⟨r, rfl⟩ := Int.eq_ofNat_of_zero_le hroom.1
  obtain ⟨m, rfl⟩ := Int.eq_ofNat_of_zero_le hnb.1
  have hmx := ho.max
  have hle := ho.le
  unfold maxLen at hmx
  have HO := Lib.hid ho
  have v1 : IntKind.i64.wrap (r : Int) = (r : Int) := by rw [IntKind.wrap_i64]; omega
  have v2 : IntKind.i64.wrap (m : Int) = (m : Int) := by rw [IntKind.wrap_i64]; omega
  have v3 : IntKind.i64.wrap (64 + (m : Int)) = ((64 + m : Nat) : Int) := by rw [IntKind.wrap_i64]; omega
  clear ho
  go_enter Tryz.func5, Tryz.ntmps5
  go_wp2_with fail
  refine (head6_any _ hL).mono ?_
  rintro e w1 ⟨rfl, b1⟩
  have B1 := Lib.hid b1
  have L1 := Lib.hid (hL.on b1)
  clear b1 hL
  have N1 := Lib.hid (DK.new r (by omega) w1)
  go_wp2_with fail
  refine N1.out.mono ?_
  rintro e w2 ⟨dp, O, rfl, hk, hb2, _⟩
  have K := Lib.hid hk
  have B2 := Lib.hid (B1.out.trans (hb2.mono B1.out.size))
  clear hk hb2 N1
  have GR := Lib.hid (great6_any a len cap l w2 ((HO.out.below B2.out (Nat.le_refl _)) |> fun h => ⟨h.length, h.le, h.max, fun hp => by obtain ⟨b, o, e, hlt, hc⟩ := h.at_ hp; exact ⟨b, o, e, Nat.lt_of_lt_of_le hlt B2.out.size, fun k op hop => ⟨(hc k op hop).1, (hc k op hop).2.below (Below.refl w2.heap.size w2) B2.out.size⟩⟩⟩))
  go_wp2_with fail
  refine GR.out.mono ?_
  rintro e w3 ⟨g0, rfl, hg, hb3⟩
  have K3 := Lib.hid (K.out.on hb3)
  have B3 := Lib.hid (B2.out.trans (hb3.mono B2.out.size))
  have HG := Lib.hid hg
  clear hb3 hg GR K B2
  cases g0
  rotate_left
  · clear HG
    go_wp2
    go_ret
    exact ⟨rfl, B3.out⟩
  have h120 := HG.out rfl
  clear HG
  have OP := Lib.hid (lgopen_any K3.out L1.out (size := 64 + m) (by omega) (by omega))
  go_wp2_with fail
  refine OP.out.mono ?_
  rintro e w4 hO
  rcases open_new r (size := ((64 + m : Nat) : Int)) (by omega) (by omega) with ⟨hn, h5⟩ | ⟨t', hop, hdur⟩
  · obtain ⟨rfl, hmv⟩ := hO.nope hn
    obtain ⟨O4, k4, _, _⟩ := hmv.far
    have B4 := Lib.hid (B1.out.trans (k4.below.mono B1.out.size))
    clear hO hn h5 hmv k4 OP
    go_wp2_with fail
    go_loopw [10, 12, 13, 14] (fun x _ _ i wr => x = .pointer none ∧ i = .int .i64 (0 : Int) ∧ wr = w4) (fun _ _ _ _ _ => 0)
    case atStart => exact ⟨rfl, rfl, rfl⟩
    case round =>
      obtain ⟨rfl, rfl, rfl⟩ := hrel
      by_cases h0 : 0 < len
      · have d0 : decide ((0 : Int) < (len : Int)) = true := by simp; omega
        go_wp2
        go_ret
        exact ⟨rfl, B4.out⟩
      · have d0 : decide ((0 : Int) < (len : Int)) = false := by simp; omega
        go_wp2
        go_ret
        exact ⟨rfl, B4.out⟩
  rw [hop] at hO
  obtain ⟨lp0, D0, sa0, sc0, rfl, hk, _, hge, _⟩ := hO.some_
  have R0 : Hid (PrefR w1 dp (64 + m) len (.pointer (some ⟨lp0, 0, none⟩)) (.slice none 0 0) (.int .i64 (0 : Int)) (.int .i64 (0 : Int)) w4) := Lib.hid ⟨0, lp0, _, _, D0, sa0, sc0, [], 0, [], 0, 0, none, 0, Nat.zero_le _, rfl, rfl, rfl, rfl, hk, hdur, by decide, ⟨OwnF.nil_ _ _, fun k hk => (by cases hk), fun t ht => (by cases ht)⟩, rfl, rfl, rfl, Nat.zero_le _⟩
  clear hO hop hdur hk hge OP K3 B3
  go_wp2_with fail
  go_loopw [10, 12, 13, 14] (fun x v s i wr => PrefR w1 dp (64 + m) len x v s i wr) (fun _ _ _ i _ => len - (intOf i).toNat)
  case atStart => exact R0.out
  case round =>
    obtain ⟨k, lp, g, t, D, sa, sc, fs, S, ts, sf, A, av, cv, hk, rfl, rfl, rfl, rfl, hkd, hdur, hsf, hall, hnx, hhd, hfs, htk⟩ := hrel
    have HB := B1.out.trans (hkd.dk.below.mono B1.out.size)
    by_cases hlt : k < len
    · obtain ⟨b, o, op, rfl, hop, ⟨e0, e1, e2, e3, e4⟩, hin⟩ := HO.out.at_laterP HB hlt
      obtain ⟨wa, hwa⟩ : ∃ wa, wa = wr.alloc (.cells #[.int .i64 op.what, .int .i64 op.kind, .slice op.ba op.bs.length op.bc, .int .i64 op.n, .slice op.ka op.ks.length op.kc] 41) := ⟨_, rfl⟩
      have hba : Below wr.heap.size wr wa := by rw [hwa]; exact (Below.refl _ _).alloc (Nat.le_refl _) _
      have hbv : wa.heap[wr.heap.size]? = some (.cells #[.int .i64 op.what, .int .i64 op.kind, .slice op.ba op.bs.length op.bc, .int .i64 op.n, .slice op.ka op.ks.length op.kc] 41 (0, 0)) := by rw [hwa]; exact heap_alloc_new _ _
      have hz : wa.heap.size = wr.heap.size + 1 := by rw [hwa]; simp
      have hlt' : (k : Int) < (len : Int) := by omega
      have hk0 : (0 : Int) ≤ (k : Int) := by omega
      have HLT : Hid (∀ q, lO D lp sa q → q < wr.heap.size) := hkd.lt
      have HVB0 : Hid (∀ q, (Value.slice av ts.length cv).ownBlock = some q → q < wr.heap.size) := fun q hq => (World.ownsRow.lt hall.own.own q hq).2
      have HW := Lib.hid hwa
      have K := Lib.hid (hkd.on hba)
      have AL := Lib.hid (hall.on hba)
      have DU := Lib.hid hdur
      have V := Lib.hid (And.intro hbv (And.intro hba (And.intro hz HB)))
      have HK := Lib.hid (And.intro hlt (And.intro hin hop))
      have HF := Lib.hid (And.intro hsf (And.intro hnx (And.intro hhd (And.intro hfs htk))))
      obtain ⟨h1, h2, h3⟩ := hdur.head
      have HA : Hid (A ≤ ts.length ∧ A ≤ 1073741824 ∧ fs.length = ts.length - A ∧ ts.length ≤ 120) := ⟨by omega, by omega, by omega, by omega⟩
      clear hkd hdur hbv hba hz HB hwa hop hin hlt hsf hnx hhd hfs htk h1 h2 h3 hall
      by_cases h9 : op.what = 9
      · have DO := Lib.hid (do9_any K.out L1.out (by omega) (by omega) op (HK.out.2.1.below (V.out.2.1.mono V.out.2.2.2.size) (Nat.le_refl _)) B1.out.size h9)
        unfold ogVal at DO
        have y0 : wa.cell? ⟨wr.heap.size, 0, none⟩ = some (.int .i64 op.what) := (cell_of_row _ _ 0 _ _ _ V.out.1).trans rfl
        rw [h9] at DO y0 HW e0
        go_wp2_with fail
        rw [← HW.out]
        refine DO.out.mono ?_
        rintro e w5 ⟨hgood, hcase⟩
        have hG := K.out.dk.good
        rcases hcase with ⟨hn, rfl, hbl, hb2⟩ | ⟨g2, lq, D2, sa2, sc2, hs, rfl, hk2, hb2, hf2⟩
        · have h5 := DU.out.crash_err hG op.ks hgood (size := ((64 + m : Nat) : Int)) (by omega) hn
          rw [h5]
          have B5 := Lib.hid (B1.out.trans (hbl.mono B1.out.size))
          have hv5 := (hb2.block wr.heap.size (by have := V.out.2.2.1; omega) (fun hq => by have := HLT.out _ (.inl hq); omega)).trans V.out.1
          have z0 : w5.cell? ⟨wr.heap.size, 0, none⟩ = some (.int .i64 op.what) := (cell_of_row _ _ 0 _ _ _ hv5).trans rfl
          rw [h9] at z0
          clear hgood hn hbl h5 hG DO y0 hv5 hb2
          go_wp2
          go_ret
          exact ⟨rfl, B5.out⟩
        · obtain ⟨fs2, rest, q1, q2, q3, hd2⟩ := DU.out.reopen hG op.ks (canon_map hgood.canon) hs
          generalize (lgOpen ((64 + m : Nat) : Int) (t.crash op.ks)).2.1 = t2 at *
          have hv5 := (hb2.block wr.heap.size (by have := V.out.2.2.1; omega) (fun hq => by have := HLT.out _ (.inl hq); omega)).trans V.out.1
          have z0 : w5.cell? ⟨wr.heap.size, 0, none⟩ = some (.int .i64 op.what) := (cell_of_row _ _ 0 _ _ _ hv5).trans rfl
          rw [h9] at z0
          have AL5 := Lib.hid (AL.out.but (hb2.more (fun q hq => .inl hq)) (O' := lO D2 lq sa2) (fun q h1 h2 h3 => by rcases hf2 q h3 with h4 | h4; exact h2 (.inl h4); omega))
          have K5 := Lib.hid hk2
          obtain ⟨p1, p2, p3⟩ := hd2.head
          rw [q2, HF.out.2.2.1] at p1 p2 p3
          obtain ⟨M, hM⟩ : ∃ M : Nat, M = A + fs2.length := ⟨_, rfl⟩
          have hMn : g2.next = (M : Int) := by rw [p3, hM]; simp
          have hMN : M ≤ ts.length := by have h1 := HA.out.2.2.1; have h2 := HA.out.1; rw [q1, List.length_append] at h1; omega
          have hcut : fs2 = ((ts.map (·.1)).take M).drop A := pref_cut HF.out.2.2.2.1 (by rw [List.length_map]; exact HA.out.1) q1 hM
          have hsM : (sf : Int) ≤ (M : Int) := by have := HF.out.1; omega
          have CF := Lib.hid (frames_got K5.out L1.out (by have := hd2.few.2; omega) hd2.inv.frames)
          have HD := Lib.hid (And.intro hd2 (And.intro q2 (And.intro hMn (And.intro hMN (And.intro hcut (And.intro hsM hM))))))
          clear hgood hs hk2 hb2 hf2 hG DO y0 q1 q2 q3 hd2 hv5 p1 p2 p3 hcut hsM hM hMn hMN
          go_wp2_with fail
          refine CF.out.mono ?_
          rintro e w6 ⟨af, cf, rfl, hF, hb⟩
          have K6 := Lib.hid (K5.out.on hb)
          have AL6 := Lib.hid (AL5.out.on hb)
          have F6 := Lib.hid hF
          have z0 := (hb.cell (p := ⟨wr.heap.size, 0, none⟩) (block_lt_of_cell z0)).trans z0
          clear hb hF CF AL5 K5
          have SG := Lib.hid (segments_any K6.out (by have := HD.out.1.few.2; omega))
          go_wp2_with fail
          refine SG.out.mono ?_
          rintro e w7 ⟨vv, rfl, ho, hb⟩
          obtain ⟨ag, cg, rfl, hr, _⟩ := OwnV.out_ ho
          have K7 := Lib.hid (K6.out.on hb)
          have AL7 := Lib.hid (AL6.out.on hb)
          have F7 := Lib.hid (F6.out.on hb)
          have z0 := (hb.cell (p := ⟨wr.heap.size, 0, none⟩) (block_lt_of_cell z0)).trans z0
          have hs0 : 0 < g2.segs.length := List.length_pos_iff.2 HD.out.1.few.1
          obtain ⟨gb, go, rfl, _, hgc⟩ := hr.at_ hs0
          have c0 : w7.cell? ⟨gb, go, none⟩ = some (.int .i64 (A : Int)) := by
            have h1 := hgc 0 (by omega)
            rw [Nat.add_zero] at h1
            rw [h1]
            have h2 : g2.segs.getD 0 0 = (A : Int) := by rw [HD.out.2.1, ← HF.out.2.2.1]; cases g.segs <;> rfl
            simp only [intsC, h2]
          have NXW : Hid (∀ x, Below w7.heap.size w7 x → Calls Tryz.prog 21 #[.pointer (some ⟨lq, 0, none⟩)] x fun e w' => e = .returned (.int .i64 (M : Int)) ∧ x = w') := fun x hx => (lgnext_any (K7.out.on hx)).mono fun e w' hh => ⟨by rw [hh.1, HD.out.2.2.1], hh.2.symm⟩
          clear ho hb hr hgc SG AL6 K6 F6
          generalize g2.segs.length = gl at *
          have hg1 : (0 : Int) < (gl : Int) := by omega
          have hg2 : ((gl : Int) == 0) = false := by simp; omega
          have hA0 : ¬ ((A : Int) < 0) := by omega
          go_wp2_with fail
          refine (NXW.out _ (Below.refl _ _)).mono ?_
          rintro e w9 ⟨rfl, rfl⟩
          obtain ⟨Fl, hfl⟩ : ∃ Fl, fs2.length = Fl := ⟨_, rfl⟩
          have hqs : M - A = Fl := by have := HD.out.2.2.2.2.2.2; omega
          have hAM : A ≤ M := by have := HD.out.2.2.2.2.2.2; omega
          have hmN : ts.length ≤ 120 := HA.out.2.2.2
          have hMN := HD.out.2.2.2.1
          have hsM := HD.out.2.2.2.2.2.1
          rw [hfl] at F7 ⊢
          have wM : IntKind.i64.wrap (M : Int) = (M : Int) := by rw [IntKind.wrap_i64]; omega
          have wA : IntKind.i64.wrap (A : Int) = (A : Int) := by rw [IntKind.wrap_i64]; omega
          have wMA : IntKind.i64.wrap ((M : Int) - (A : Int)) = (Fl : Int) := by rw [IntKind.wrap_i64]; omega
          have wF : IntKind.i64.wrap (Fl : Int) = (Fl : Int) := by rw [IntKind.wrap_i64]; omega
          have mn : min (A : Int) (M : Int) = (A : Int) := by omega
          have d1 : decide ((M : Int) < (sf : Int)) = false := by simp; omega
          have d2 : decide ((ts.length : Int) < (M : Int)) = false := by simp; omega
          have n1 : decide (M < sf) = false := by simp; omega
          have n1b : ¬ M < sf := by omega
          have n1c : sf ≤ M := by omega
          have n2 : decide (ts.length < M) = false := by simp; omega
          have n2b : ¬ ts.length < M := by omega
          have n2c : M ≤ ts.length := by omega
          have CB : Hid (M ≤ cv) := by show _ ≤ _; obtain ⟨a9, c9, hv9, hf9⟩ := AL7.out.own.frs; injection hv9 with e1 e2 e3; have := hf9.le; omega
          have kmid : ∀ x, (Instr.slice 46 (.slice av ts.length cv) (some (.int .i64 (A : Int))) (some (.int .i64 (M : Int))) none).run Tryz.prog x = .ok (.slice (cutF av cv A) Fl (cv - A)) x := fun x => by have := run_cutF_mid (P := Tryz.prog) 46 62 Tryz.underlying46 info_frame av ts.length cv A M hAM CB.out x; rwa [hqs] at this
          have kto : ∀ x, (Instr.slice 46 (.slice av ts.length cv) none (some (.int .i64 (M : Int))) none).run Tryz.prog x = .ok (.slice av M cv) x := run_cutF_to (P := Tryz.prog) 46 62 Tryz.underlying46 info_frame av ts.length cv M CB.out
          have SM : Hid (Calls Tryz.prog 18 #[.slice af Fl cf, .slice (cutF av cv A) Fl (cv - A)] w7 fun e w' => e = .returned (.bool true) ∧ Below w7.heap.size w7 w') := by
            show Calls _ _ _ _ _
            obtain ⟨a9, c9, hv9, hf9⟩ := AL7.out.own.frs
            injection hv9 with e1 e2 e3
            subst e1 e3
            have hc9 := hf9.cut hAM hMN
            rw [hqs] at hc9
            have := same_any _ _ _ _ _ _ _ _ w7 F7.out.frs hc9
            rwa [← HD.out.2.2.2.2.1, decide_eq_true rfl] at this
          clear hqs hfl hAM hMN hsM
          go_wp2_with fail
          refine (NXW.out _ (Below.refl _ _)).mono ?_
          rintro e w9 ⟨rfl, rfl⟩
          go_wp2_with fail
          with_reducible refine SM.out.mono ?_
          rintro e w8 ⟨rfl, hb⟩
          have K8 := Lib.hid (K7.out.on hb)
          have hMN := HD.out.2.2.2.1
          have AL8 := Lib.hid ((AL7.out.take hMN).on hb)
          have HTL : Hid ((ts.take M).length = M) := by show _ = _; rw [List.length_take]; omega
          clear hb SM NXW F7 AL7 K7 c0 hMN
          go_wp2_with fail
          go_roundw
          case rel => exact ⟨k + 1, lq, g2, t2, D2, sa2, sc2, fs2, g2.next, ts.take M, M, A, av, cv, HK.out.1, by go_num, rfl, rfl, by rw [HTL.out], K8.out, HD.out.1, by rw [HD.out.2.2.1]; exact Int.le_refl _, by rw [HTL.out]; exact AL8.out, by rw [HTL.out]; exact HD.out.2.2.1, by rw [HD.out.2.1]; exact HF.out.2.2.1, by rw [List.map_take]; exact HD.out.2.2.2.2.1, by rw [HTL.out]; have := HF.out.2.2.2.2; have := HD.out.2.2.2.1; omega⟩
          case measure => have := HK.out.1; simp [intOf]; omega
      have h9' : (op.what == 9) = false := by simpa using h9
      have DO := Lib.hid (do6_any K.out DU.out.few.1 L1.out (by have := DU.out.few.2; omega) (by omega) op (HK.out.2.1.below (V.out.2.1.mono V.out.2.2.2.size) (Nat.le_refl _)) B1.out.size h9)
      unfold ogVal Did at DO
      have y0 : wa.cell? ⟨wr.heap.size, 0, none⟩ = some (.int .i64 op.what) := (cell_of_row _ _ 0 _ _ _ V.out.1).trans rfl
      go_wp2_with fail
      rw [← HW.out]
      refine DO.out.mono ?_
      rintro e w6 ⟨rfl, hmv⟩
      obtain ⟨D6, sa6, sc6, hk6, b6, f6⟩ := hmv.far
      obtain ⟨fs', S', hd', hSS, hsy, hcase⟩ := DU.out.do_p (64 + m) op h9
      generalize lgDo (64 + m) g t op = rr at *
      have hv6 := (b6.block wr.heap.size (by have := V.out.2.2.1; omega) (fun hq => by have := HLT.out _ hq; omega)).trans V.out.1
      have z0 : w6.cell? ⟨wr.heap.size, 0, none⟩ = some (.int .i64 op.what) := (cell_of_row _ _ 0 _ _ _ hv6).trans rfl
      have z1 : w6.cell? ⟨wr.heap.size, 1, none⟩ = some (.int .i64 op.kind) := (cell_of_row _ _ 1 _ _ _ hv6).trans rfl
      have z2 : w6.cell? ⟨wr.heap.size, 2, none⟩ = some (.slice op.ba op.bs.length op.bc) := (cell_of_row _ _ 2 _ _ _ hv6).trans rfl
      have AL6 := Lib.hid (AL.out.but b6 (O' := lO D6 lp sa6) f6)
      have HVB : Hid (∀ q, (Value.slice av ts.length cv).ownBlock = some q → q < wr.heap.size) := HVB0.out
      have K6 := Lib.hid hk6
      have hhead := hd'.head
      have hsz6 := b6.size
      have HD := Lib.hid (And.intro hd' (And.intro hSS (And.intro hsy hsz6)))
      clear hmv hk6 b6 f6 hd' hSS hsy hv6 DO y0 e0 e1 e2 e3 e4 AL K hsz6
      rcases hcase with ⟨had, hf0, hseq, hnx', hfs', hbl⟩ | ⟨herr, hnx', j, hj, hfs'⟩
      · have bf1 : (rr.1.2 == 0) = true := by simpa using hf0
        have hs2 : rr.1.1 = (ts.length : Int) := hseq.trans HF.out.2.1
        rw [hs2]
        have HC := Lib.hid (And.intro hnx' (And.intro hfs' (And.intro hbl hhead)))
        have b4 : (op.what == 4) = false := by simp; omega
        have b5 : (op.what == 5) = false := by simp; omega
        have hln : (ts.length : Int) ≤ 120 := by have := HA.out.2.2.2; omega
        clear hf0 hseq hnx' hfs' hbl hhead hs2
        by_cases c1 : op.what < 4
        · have d1 : decide (op.what < 4) = true := decide_eq_true c1
          have hop := HK.out.2.2
          obtain ⟨b2, o2, op2, he2, hop2, hcc2, hin2⟩ := HO.out.at_laterP (B1.out.trans (K6.out.dk.below.mono B1.out.size)) (k := k) HK.out.1
          rw [hop] at hop2
          injection hop2 with hop2
          subst hop2
          have hsl := hin2.sl.more (Nat.le_trans B1.out.size K6.out.dk.below.size)
          have SB := Lib.hid hsl
          have hvne : ∀ q, (Value.slice av ts.length cv).ownBlock = some q → q ≠ wr.heap.size := fun q hq e => by have := HVB.out q hq; omega
          have HVN := Lib.hid hvne
          have Z := Lib.hid (And.intro z1 z2)
          clear he2 hcc2 hin2 hop hsl hvne
          go_wp2_with fail
          refine wp_region_held_drew (S := fun x => x.cell? ⟨wr.heap.size, 1, none⟩ = some (.int .i64 op.kind) ∧ x.cell? ⟨wr.heap.size, 2, none⟩ = some (.slice op.ba op.bs.length op.bc)) (by kernel_rfl) ⟨z1, z2⟩ (fun hHeld => ?_)
          refine wpAnyH_take (i := 0) (v := ?_) rfl (by kernel_rfl) (by kernel_rfl) (by kernel_rfl) (fun _ _ _ h => h) (Or.inl ⟨by rfl, ?_⟩) (by assumption) ?_
          rotate_left
          · intro w hSw
            (try dsimp only at hSw)
            go_simp
            all_goals with_reducible rfl
          try simp only [Act.put, List.getElem_toArray, List.getElem_cons_succ, List.getElem_cons_zero, List.setIfInBounds_toArray, List.set_cons_zero, List.set_cons_succ]
          refine wpAnyH_take (i := 1) (v := ?_) rfl (by kernel_rfl) (by kernel_rfl) (by kernel_rfl) (fun _ _ _ h => h) (Or.inl ⟨by rfl, ?_⟩) (by assumption) ?_
          rotate_left
          · intro w hSw
            (try dsimp only at hSw)
            go_simp
            all_goals with_reducible rfl
          try simp only [Act.put, List.getElem_toArray, List.getElem_cons_succ, List.getElem_cons_zero, List.setIfInBounds_toArray, List.set_cons_zero, List.set_cons_succ]
          refine wpAnyH_take (i := 2) (v := ?_) rfl (by kernel_rfl) (by kernel_rfl) (by kernel_rfl) (fun _ _ _ h => h) (Or.inl ⟨by rfl, ?_⟩) (by assumption) ?_
          rotate_left
          · intro w hSw
            (try dsimp only at hSw)
            go_simp
            all_goals with_reducible rfl
          try simp only [Act.put, List.getElem_toArray, List.getElem_cons_succ, List.getElem_cons_zero, List.setIfInBounds_toArray, List.set_cons_zero, List.set_cons_succ]
          refine wpAnyH_take (i := 3) (v := ?_) rfl (by kernel_rfl) (by kernel_rfl) (by kernel_rfl) (fun _ _ _ h => h) (Or.inl ⟨by rfl, ?_⟩) (by assumption) ?_
          rotate_left
          · intro w hSw
            (try dsimp only at hSw)
            go_simp
            all_goals with_reducible rfl
          try simp only [Act.put, List.getElem_toArray, List.getElem_cons_succ, List.getElem_cons_zero, List.setIfInBounds_toArray, List.set_cons_zero, List.set_cons_succ]
          refine wpAnyH_take (i := 5) (v := ?_) rfl (by kernel_rfl) (by kernel_rfl) (by kernel_rfl) (fun _ _ _ h => h) (Or.inl ⟨by rfl, ?_⟩) (by assumption) ?_
          rotate_left
          · intro w hSw
            (try dsimp only at hSw)
            go_simp
            all_goals with_reducible rfl
          try simp only [Act.put, List.getElem_toArray, List.getElem_cons_succ, List.getElem_cons_zero, List.setIfInBounds_toArray, List.set_cons_zero, List.set_cons_succ]
          refine wpAnyH_take (i := 6) (v := ?_) rfl (by kernel_rfl) (by kernel_rfl) (by kernel_rfl) (fun _ _ _ h => h) (Or.inl ⟨by rfl, ?_⟩) (by assumption) ?_
          rotate_left
          · intro w hSw
            (try dsimp only at hSw)
            go_simp
            all_goals with_reducible rfl
          try simp only [Act.put, List.getElem_toArray, List.getElem_cons_succ, List.getElem_cons_zero, List.setIfInBounds_toArray, List.set_cons_zero, List.set_cons_succ]
          refine wpAnyH_ready (rs := [4]) (by kernel_rfl) (by simp) ?_
          refine AllReadyH.cons rfl (fun K hK => ?_) AllReadyH.nil
          rw [if_pos (by rfl)]
          go_simp
          obtain ⟨x4, hx4⟩ : ∃ x, x = (w6.alloc (.cells #[] 5)).drew := ⟨_, rfl⟩
          have b4x : Below w6.heap.size w6 x4 := by rw [hx4]; exact Below.drew ((Below.refl _ _).alloc (Nat.le_refl _) _)
          have hq4 : OwnB x4 w6.heap.size 5 (.slice (some ⟨w6.heap.size, 0, none⟩) 0 0) [] := by rw [hx4]; exact OwnB.drew (OwnB.lit _ [] (Nat.le_refl _) (by decide))
          rw [← hx4]
          clear hx4
          have CC : Hid (∀ x, Below w6.heap.size w6 x → x.cell? ⟨wr.heap.size, 1, none⟩ = some (.int .i64 op.kind) ∧ x.cell? ⟨wr.heap.size, 2, none⟩ = some (.slice op.ba op.bs.length op.bc)) := fun x hx => ⟨(hx.cell (p := ⟨wr.heap.size, 1, none⟩) (block_lt_of_cell Z.out.1)).trans Z.out.1, (hx.cell (p := ⟨wr.heap.size, 2, none⟩) (block_lt_of_cell Z.out.2)).trans Z.out.2⟩
          refine hK.out _ _ ?_ (fun hHeld => ?_)
          · exact CC.out _ b4x
          clear hK K
          try simp only [Act.put, List.getElem_toArray, List.getElem_cons_succ, List.getElem_cons_zero, List.setIfInBounds_toArray, List.set_cons_zero, List.set_cons_succ]
          refine wpAnyH_ready (rs := [7]) (by kernel_rfl) (by simp) ?_
          refine AllReadyH.cons rfl (fun K hK => ?_) AllReadyH.nil
          rw [if_pos (by rfl)]
          refine wp_append_sl (.tmp 150) (.tmp 152) 38 rfl w6.heap.size 5 Tryz.underlying38 info_u8 (.slice (some ⟨w6.heap.size, 0, none⟩) 0 0) [] (by rfl) hq4 w6.heap.size op.ba op.bs.length op.bc op.bs (by rfl) (SB.out.below b4x (Nat.le_refl _)) (by have := HC.out.2.2.1; simp; omega) b4x.size ?_
          intro v7 w7 ho7 hg7 _
          have b7 : Below w6.heap.size w6 w7 := b4x.grown hg7 b4x.size (fun q e => Nat.le_of_eq (Option.some.inj e))
          rw [List.nil_append] at ho7
          obtain ⟨ab, cb, rfl, hsb, hab⟩ := ho7.sl_base SB.out.byte
          refine hK.out _ _ ?_ (fun hHeld => ?_)
          · exact CC.out _ b7
          clear hK K
          try simp only [Act.put, List.getElem_toArray, List.getElem_cons_succ, List.getElem_cons_zero, List.setIfInBounds_toArray, List.set_cons_zero, List.set_cons_succ]
          refine wpAnyH_take (i := 8) (v := ?_) rfl (by kernel_rfl) (by kernel_rfl) (by kernel_rfl) (fun _ _ _ h => h) (Or.inl ⟨by rfl, ?_⟩) (by assumption) ?_
          rotate_left
          · intro w hSw
            (try dsimp only at hSw)
            go_simp
            all_goals with_reducible rfl
          try simp only [Act.put, List.getElem_toArray, List.getElem_cons_succ, List.getElem_cons_zero, List.setIfInBounds_toArray, List.set_cons_zero, List.set_cons_succ]
          refine wpAnyH_ready (rs := [9]) (by kernel_rfl) (by simp) ?_
          refine AllReadyH.cons rfl (fun K hK => ?_) AllReadyH.nil
          rw [if_pos (by rfl)]
          go_simp
          obtain ⟨x9, hx9⟩ : ∃ x, x = w7.alloc (.cells #[.int .i64 op.kind, .int .i64 (ts.length : Int), .slice ab op.bs.length cb] 62) := ⟨_, rfl⟩
          have b9 : Below w7.heap.size w7 x9 := by rw [hx9]; exact (Below.refl _ _).alloc (Nat.le_refl _) _
          have h9b : x9.heap[w7.heap.size]? = some (.cells #[.int .i64 op.kind, .int .i64 (ts.length : Int), .slice ab op.bs.length cb] 62 (0, 0)) := by rw [hx9]; exact heap_alloc_new _ _
          rw [← hx9]
          clear hx9
          have b9' := b7.trans (b9.mono b7.size)
          refine hK.out _ _ ?_ (fun hHeld => ?_)
          · exact CC.out _ b9'
          clear hK K
          try simp only [Act.put, List.getElem_toArray, List.getElem_cons_succ, List.getElem_cons_zero, List.setIfInBounds_toArray, List.set_cons_zero, List.set_cons_succ]
          refine wpAnyH_ready (rs := [10]) (by kernel_rfl) (by simp) ?_
          refine AllReadyH.cons rfl (fun K hK => ?_) AllReadyH.nil
          rw [if_pos (by rfl)]
          have AL9 := AL6.out.on b9'
          refine wp_append_fr (.tmp 146) (.tmp 155) rfl w1.heap.size (.slice av ts.length cv) ts (by rfl) w7.heap.size ((⟨op.kind, (ts.length : Int), op.bs⟩ : Fr), ab, cb) (by rfl) AL9.own h9b ((hsb.below b9 (Nat.le_refl _)).more b9.size) (fun hp bb oo e e2 => by have h1 := hab bb oo e; have h2 := HVB.out bb e2.symm; have h3 := HD.out.2.2.2; have h4 := V.out.2.2.1; omega) (by have := HA.out.2.2.2; omega) (Nat.le_trans K6.out.dk.below.size b9'.size) ?_
          intro v10 w10 ho10 hg10 hw10
          obtain ⟨a10, c10, hv10⟩ := slice_of ho10
          subst hv10
          have hS10 : w10.cell? ⟨wr.heap.size, 1, none⟩ = some (.int .i64 op.kind) ∧ w10.cell? ⟨wr.heap.size, 2, none⟩ = some (.slice op.ba op.bs.length op.bc) := ⟨hg10.cell (CC.out _ b9').1 (fun e => HVN.out _ e.symm rfl), hg10.cell (CC.out _ b9').2 (fun e => HVN.out _ e.symm rfl)⟩
          have z0x := hg10.cell ((b9'.cell (p := ⟨wr.heap.size, 0, none⟩) (block_lt_of_cell z0)).trans z0) (fun e => HVN.out _ e.symm rfl)
          have hlt10 : ∀ q, lO D6 lp sa6 q → q < w6.heap.size := K6.out.lt
          have K10 := Lib.hid ((K6.out.on b9').out_ (But.grown (O := fun q => (Value.slice av ts.length cv).ownBlock = some q) hg10 (fun q e => e)) (fun q hq => ⟨AL9.row q hq, (World.ownsRow.lt AL9.own.own q hq).1⟩))
          have AL10 := Lib.hid (AL9.more (g := 0) ho10 hw10 (fun hq => by have := hlt10 _ hq; have := b9'.size; omega) (fun _ bb oo e hq => by have := hlt10 _ hq; have := hab bb oo e; omega))
          refine hK.out _ _ ?_ (fun hHeld => ?_)
          · exact hS10
          clear hK K
          try simp only [Act.put, List.getElem_toArray, List.getElem_cons_succ, List.getElem_cons_zero, List.setIfInBounds_toArray, List.set_cons_zero, List.set_cons_succ]
          refine wpAnyH_take (i := 11) (v := ?_) rfl (by kernel_rfl) (by kernel_rfl) (by kernel_rfl) (fun _ _ _ h => h) (Or.inl ⟨by rfl, ?_⟩) (by assumption) ?_
          rotate_left
          · intro w hSw
            (try dsimp only at hSw)
            go_simp
            all_goals with_reducible rfl
          try simp only [Act.put, List.getElem_toArray, List.getElem_cons_succ, List.getElem_cons_zero, List.setIfInBounds_toArray, List.set_cons_zero, List.set_cons_succ]
          refine wpAnyH_done (by kernel_rfl) ?_ _
          have hl10 : (ts ++ [((⟨op.kind, (ts.length : Int), op.bs⟩ : Fr), ab, cb)]).length = ts.length + 1 := by simp
          rw [hl10] at AL10 ⊢
          clear hHeld hS10 ho10 hg10 hw10 AL9 h9b b9 b9' hsb hab b7 b4x hq4 ho7 hg7 CC hlt10 z0 z1 z2
          go_wp2_with fail
          go_roundw
          case rel => exact ⟨k + 1, lp, rr.2.2, rr.2.1, D6, sa6, sc6, fs', S', ts ++ [((⟨op.kind, (ts.length : Int), op.bs⟩ : Fr), ab, cb)], sf, A, a10, c10, HK.out.1, by go_num, rfl, rfl, by rw [hl10], K10.out, HD.out.1, Int.le_trans HF.out.1 HD.out.2.1, by rw [hl10]; exact AL10.out, by rw [hl10, HC.out.1, HF.out.2.1]; rfl, by have h1 := HC.out.2.2.2.2.2; have h2 := HC.out.2.1; have h3 := HA.out; have h4 := HC.out.1; have h5 := HF.out.2.1; rw [h2, List.length_append] at h1; simp only [List.length_cons, List.length_nil] at h1; omega, by rw [HC.out.2.1, List.map_append, HF.out.2.1]; exact pref_more HF.out.2.2.2.1 (by rw [List.length_map]; exact HA.out.1), by rw [hl10]; have := HF.out.2.2.2.2; omega⟩
          case measure => have := HK.out.1; simp [intOf]; omega
        have d1 : decide (op.what < 4) = false := decide_eq_false c1
        have c2 : 9 < op.what := by omega
        have d2 : decide (9 < op.what) = true := decide_eq_true c2
        have hop := HK.out.2.2
        obtain ⟨b2, o2, op2, he2, hop2, hcc2, hin2⟩ := HO.out.at_laterP (B1.out.trans (K6.out.dk.below.mono B1.out.size)) (k := k) HK.out.1
        rw [hop] at hop2
        injection hop2 with hop2
        subst hop2
        have hsl := hin2.sl.more (Nat.le_trans B1.out.size K6.out.dk.below.size)
        have SB := Lib.hid hsl
        have hvne : ∀ q, (Value.slice av ts.length cv).ownBlock = some q → q ≠ wr.heap.size := fun q hq e => by have := HVB.out q hq; omega
        have HVN := Lib.hid hvne
        have Z := Lib.hid (And.intro z1 z2)
        clear he2 hcc2 hin2 hop hsl hvne
        go_wp2_with fail
        refine wp_region_held_drew (S := fun x => x.cell? ⟨wr.heap.size, 1, none⟩ = some (.int .i64 op.kind) ∧ x.cell? ⟨wr.heap.size, 2, none⟩ = some (.slice op.ba op.bs.length op.bc)) (by kernel_rfl) ⟨z1, z2⟩ (fun hHeld => ?_)
        refine wpAnyH_take (i := 0) (v := ?_) rfl (by kernel_rfl) (by kernel_rfl) (by kernel_rfl) (fun _ _ _ h => h) (Or.inl ⟨by rfl, ?_⟩) (by assumption) ?_
        rotate_left
        · intro w hSw
          (try dsimp only at hSw)
          go_simp
          all_goals with_reducible rfl
        try simp only [Act.put, List.getElem_toArray, List.getElem_cons_succ, List.getElem_cons_zero, List.setIfInBounds_toArray, List.set_cons_zero, List.set_cons_succ]
        refine wpAnyH_take (i := 1) (v := ?_) rfl (by kernel_rfl) (by kernel_rfl) (by kernel_rfl) (fun _ _ _ h => h) (Or.inl ⟨by rfl, ?_⟩) (by assumption) ?_
        rotate_left
        · intro w hSw
          (try dsimp only at hSw)
          go_simp
          all_goals with_reducible rfl
        try simp only [Act.put, List.getElem_toArray, List.getElem_cons_succ, List.getElem_cons_zero, List.setIfInBounds_toArray, List.set_cons_zero, List.set_cons_succ]
        refine wpAnyH_take (i := 2) (v := ?_) rfl (by kernel_rfl) (by kernel_rfl) (by kernel_rfl) (fun _ _ _ h => h) (Or.inl ⟨by rfl, ?_⟩) (by assumption) ?_
        rotate_left
        · intro w hSw
          (try dsimp only at hSw)
          go_simp
          all_goals with_reducible rfl
        try simp only [Act.put, List.getElem_toArray, List.getElem_cons_succ, List.getElem_cons_zero, List.setIfInBounds_toArray, List.set_cons_zero, List.set_cons_succ]
        refine wpAnyH_take (i := 3) (v := ?_) rfl (by kernel_rfl) (by kernel_rfl) (by kernel_rfl) (fun _ _ _ h => h) (Or.inl ⟨by rfl, ?_⟩) (by assumption) ?_
        rotate_left
        · intro w hSw
          (try dsimp only at hSw)
          go_simp
          all_goals with_reducible rfl
        try simp only [Act.put, List.getElem_toArray, List.getElem_cons_succ, List.getElem_cons_zero, List.setIfInBounds_toArray, List.set_cons_zero, List.set_cons_succ]
        refine wpAnyH_take (i := 5) (v := ?_) rfl (by kernel_rfl) (by kernel_rfl) (by kernel_rfl) (fun _ _ _ h => h) (Or.inl ⟨by rfl, ?_⟩) (by assumption) ?_
        rotate_left
        · intro w hSw
          (try dsimp only at hSw)
          go_simp
          all_goals with_reducible rfl
        try simp only [Act.put, List.getElem_toArray, List.getElem_cons_succ, List.getElem_cons_zero, List.setIfInBounds_toArray, List.set_cons_zero, List.set_cons_succ]
        refine wpAnyH_take (i := 6) (v := ?_) rfl (by kernel_rfl) (by kernel_rfl) (by kernel_rfl) (fun _ _ _ h => h) (Or.inl ⟨by rfl, ?_⟩) (by assumption) ?_
        rotate_left
        · intro w hSw
          (try dsimp only at hSw)
          go_simp
          all_goals with_reducible rfl
        try simp only [Act.put, List.getElem_toArray, List.getElem_cons_succ, List.getElem_cons_zero, List.setIfInBounds_toArray, List.set_cons_zero, List.set_cons_succ]
        refine wpAnyH_ready (rs := [4]) (by kernel_rfl) (by simp) ?_
        refine AllReadyH.cons rfl (fun K hK => ?_) AllReadyH.nil
        rw [if_pos (by rfl)]
        go_simp
        obtain ⟨x4, hx4⟩ : ∃ x, x = (w6.alloc (.cells #[] 5)).drew := ⟨_, rfl⟩
        have b4x : Below w6.heap.size w6 x4 := by rw [hx4]; exact Below.drew ((Below.refl _ _).alloc (Nat.le_refl _) _)
        have hq4 : OwnB x4 w6.heap.size 5 (.slice (some ⟨w6.heap.size, 0, none⟩) 0 0) [] := by rw [hx4]; exact OwnB.drew (OwnB.lit _ [] (Nat.le_refl _) (by decide))
        rw [← hx4]
        clear hx4
        have CC : Hid (∀ x, Below w6.heap.size w6 x → x.cell? ⟨wr.heap.size, 1, none⟩ = some (.int .i64 op.kind) ∧ x.cell? ⟨wr.heap.size, 2, none⟩ = some (.slice op.ba op.bs.length op.bc)) := fun x hx => ⟨(hx.cell (p := ⟨wr.heap.size, 1, none⟩) (block_lt_of_cell Z.out.1)).trans Z.out.1, (hx.cell (p := ⟨wr.heap.size, 2, none⟩) (block_lt_of_cell Z.out.2)).trans Z.out.2⟩
        refine hK.out _ _ ?_ (fun hHeld => ?_)
        · exact CC.out _ b4x
        clear hK K
        try simp only [Act.put, List.getElem_toArray, List.getElem_cons_succ, List.getElem_cons_zero, List.setIfInBounds_toArray, List.set_cons_zero, List.set_cons_succ]
        refine wpAnyH_ready (rs := [7]) (by kernel_rfl) (by simp) ?_
        refine AllReadyH.cons rfl (fun K hK => ?_) AllReadyH.nil
        rw [if_pos (by rfl)]
        refine wp_append_sl (.tmp 150) (.tmp 152) 38 rfl w6.heap.size 5 Tryz.underlying38 info_u8 (.slice (some ⟨w6.heap.size, 0, none⟩) 0 0) [] (by rfl) hq4 w6.heap.size op.ba op.bs.length op.bc op.bs (by rfl) (SB.out.below b4x (Nat.le_refl _)) (by have := HC.out.2.2.1; simp; omega) b4x.size ?_
        intro v7 w7 ho7 hg7 _
        have b7 : Below w6.heap.size w6 w7 := b4x.grown hg7 b4x.size (fun q e => Nat.le_of_eq (Option.some.inj e))
        rw [List.nil_append] at ho7
        obtain ⟨ab, cb, rfl, hsb, hab⟩ := ho7.sl_base SB.out.byte
        refine hK.out _ _ ?_ (fun hHeld => ?_)
        · exact CC.out _ b7
        clear hK K
        try simp only [Act.put, List.getElem_toArray, List.getElem_cons_succ, List.getElem_cons_zero, List.setIfInBounds_toArray, List.set_cons_zero, List.set_cons_succ]
        refine wpAnyH_take (i := 8) (v := ?_) rfl (by kernel_rfl) (by kernel_rfl) (by kernel_rfl) (fun _ _ _ h => h) (Or.inl ⟨by rfl, ?_⟩) (by assumption) ?_
        rotate_left
        · intro w hSw
          (try dsimp only at hSw)
          go_simp
          all_goals with_reducible rfl
        try simp only [Act.put, List.getElem_toArray, List.getElem_cons_succ, List.getElem_cons_zero, List.setIfInBounds_toArray, List.set_cons_zero, List.set_cons_succ]
        refine wpAnyH_ready (rs := [9]) (by kernel_rfl) (by simp) ?_
        refine AllReadyH.cons rfl (fun K hK => ?_) AllReadyH.nil
        rw [if_pos (by rfl)]
        go_simp
        obtain ⟨x9, hx9⟩ : ∃ x, x = w7.alloc (.cells #[.int .i64 op.kind, .int .i64 (ts.length : Int), .slice ab op.bs.length cb] 62) := ⟨_, rfl⟩
        have b9 : Below w7.heap.size w7 x9 := by rw [hx9]; exact (Below.refl _ _).alloc (Nat.le_refl _) _
        have h9b : x9.heap[w7.heap.size]? = some (.cells #[.int .i64 op.kind, .int .i64 (ts.length : Int), .slice ab op.bs.length cb] 62 (0, 0)) := by rw [hx9]; exact heap_alloc_new _ _
        rw [← hx9]
        clear hx9
        have b9' := b7.trans (b9.mono b7.size)
        refine hK.out _ _ ?_ (fun hHeld => ?_)
        · exact CC.out _ b9'
        clear hK K
        try simp only [Act.put, List.getElem_toArray, List.getElem_cons_succ, List.getElem_cons_zero, List.setIfInBounds_toArray, List.set_cons_zero, List.set_cons_succ]
        refine wpAnyH_ready (rs := [10]) (by kernel_rfl) (by simp) ?_
        refine AllReadyH.cons rfl (fun K hK => ?_) AllReadyH.nil
        rw [if_pos (by rfl)]
        have AL9 := AL6.out.on b9'
        refine wp_append_fr (.tmp 146) (.tmp 155) rfl w1.heap.size (.slice av ts.length cv) ts (by rfl) w7.heap.size ((⟨op.kind, (ts.length : Int), op.bs⟩ : Fr), ab, cb) (by rfl) AL9.own h9b ((hsb.below b9 (Nat.le_refl _)).more b9.size) (fun hp bb oo e e2 => by have h1 := hab bb oo e; have h2 := HVB.out bb e2.symm; have h3 := HD.out.2.2.2; have h4 := V.out.2.2.1; omega) (by have := HA.out.2.2.2; omega) (Nat.le_trans K6.out.dk.below.size b9'.size) ?_
        intro v10 w10 ho10 hg10 hw10
        obtain ⟨a10, c10, hv10⟩ := slice_of ho10
        subst hv10
        have hS10 : w10.cell? ⟨wr.heap.size, 1, none⟩ = some (.int .i64 op.kind) ∧ w10.cell? ⟨wr.heap.size, 2, none⟩ = some (.slice op.ba op.bs.length op.bc) := ⟨hg10.cell (CC.out _ b9').1 (fun e => HVN.out _ e.symm rfl), hg10.cell (CC.out _ b9').2 (fun e => HVN.out _ e.symm rfl)⟩
        have z0x := hg10.cell ((b9'.cell (p := ⟨wr.heap.size, 0, none⟩) (block_lt_of_cell z0)).trans z0) (fun e => HVN.out _ e.symm rfl)
        have hlt10 : ∀ q, lO D6 lp sa6 q → q < w6.heap.size := K6.out.lt
        have K10 := Lib.hid ((K6.out.on b9').out_ (But.grown (O := fun q => (Value.slice av ts.length cv).ownBlock = some q) hg10 (fun q e => e)) (fun q hq => ⟨AL9.row q hq, (World.ownsRow.lt AL9.own.own q hq).1⟩))
        have AL10 := Lib.hid (AL9.more (g := 0) ho10 hw10 (fun hq => by have := hlt10 _ hq; have := b9'.size; omega) (fun _ bb oo e hq => by have := hlt10 _ hq; have := hab bb oo e; omega))
        refine hK.out _ _ ?_ (fun hHeld => ?_)
        · exact hS10
        clear hK K
        try simp only [Act.put, List.getElem_toArray, List.getElem_cons_succ, List.getElem_cons_zero, List.setIfInBounds_toArray, List.set_cons_zero, List.set_cons_succ]
        refine wpAnyH_take (i := 11) (v := ?_) rfl (by kernel_rfl) (by kernel_rfl) (by kernel_rfl) (fun _ _ _ h => h) (Or.inl ⟨by rfl, ?_⟩) (by assumption) ?_
        rotate_left
        · intro w hSw
          (try dsimp only at hSw)
          go_simp
          all_goals with_reducible rfl
        try simp only [Act.put, List.getElem_toArray, List.getElem_cons_succ, List.getElem_cons_zero, List.setIfInBounds_toArray, List.set_cons_zero, List.set_cons_succ]
        refine wpAnyH_done (by kernel_rfl) ?_ _
        have hl10 : (ts ++ [((⟨op.kind, (ts.length : Int), op.bs⟩ : Fr), ab, cb)]).length = ts.length + 1 := by simp
        rw [hl10] at AL10 ⊢
        clear hHeld hS10 ho10 hg10 hw10 AL9 h9b b9 b9' hsb hab b7 b4x hq4 ho7 hg7 CC hlt10 z0 z1 z2
        go_wp2_with fail
        go_roundw
        case rel => exact ⟨k + 1, lp, rr.2.2, rr.2.1, D6, sa6, sc6, fs', S', ts ++ [((⟨op.kind, (ts.length : Int), op.bs⟩ : Fr), ab, cb)], sf, A, a10, c10, HK.out.1, by go_num, rfl, rfl, by rw [hl10], K10.out, HD.out.1, Int.le_trans HF.out.1 HD.out.2.1, by rw [hl10]; exact AL10.out, by rw [hl10, HC.out.1, HF.out.2.1]; rfl, by have h1 := HC.out.2.2.2.2.2; have h2 := HC.out.2.1; have h3 := HA.out; have h4 := HC.out.1; have h5 := HF.out.2.1; rw [h2, List.length_append] at h1; simp only [List.length_cons, List.length_nil] at h1; omega, by rw [HC.out.2.1, List.map_append, HF.out.2.1]; exact pref_more HF.out.2.2.2.1 (by rw [List.length_map]; exact HA.out.1), by rw [hl10]; have := HF.out.2.2.2.2; omega⟩
        case measure => have := HK.out.1; simp [intOf]; omega
      · have INV : Hid (∀ sv : Nat, (sv : Int) ≤ S' → PrefR w1 dp (64 + m) len (.pointer (some ⟨lp, 0, none⟩)) (.slice av ts.length cv) (.int .i64 (sv : Int)) (.int .i64 ((k : Int) + 1)) w6) := fun sv hsv => by
          have h3 := HA.out
          have hl' : fs'.length = fs.length - j := by rw [hfs', List.length_drop]
          obtain ⟨A2, hA2⟩ : ∃ A2 : Nat, rr.2.2.segs.headD 0 = (A2 : Int) := ⟨(rr.2.2.segs.headD 0).toNat, by omega⟩
          have hn2 : rr.2.2.next = (ts.length : Int) := hnx'.trans HF.out.2.1
          exact ⟨k + 1, lp, rr.2.2, rr.2.1, D6, sa6, sc6, fs', S', ts, sv, A2, av, cv, HK.out.1, by go_num, rfl, rfl, rfl, K6.out, HD.out.1, hsv, AL6.out, hn2, hA2, pref_drop HF.out.2.2.2.1 (by rw [List.length_map]; exact h3.1) hj hfs' (by rw [List.length_map]; have := hhead.2.2; omega), by have := HF.out.2.2.2.2; omega⟩
        have S1 : Hid ((sf : Int) ≤ S') := Int.le_trans HF.out.1 HD.out.2.1
        have S2 : Hid ((op.what = 4 ∨ op.what = 5) → rr.1.2 = 0 → (ts.length : Int) ≤ S') := fun h1 h2 => by rw [HD.out.2.2.1 h1 h2, HF.out.2.1]; exact Int.le_refl _
        have HER := Lib.hid herr
        clear hnx' hj hfs' hhead herr z1 z2
        by_cases c1 : op.what < 4
        · have d1 : decide (op.what < 4) = true := decide_eq_true c1
          have hh : op.what < 4 ∨ 9 < op.what := .inl c1
          have hf0 := HER.out hh
          have bf1 : (rr.1.2 == 0) = false := by simpa using hf0
          have b4 : (op.what == 4) = false := by simp; omega
          have b5 : (op.what == 5) = false := by simp; omega
          go_wp2
          go_roundw
          case rel => exact INV.out _ S1.out
          case measure => have := HK.out.1; simp [intOf]; omega
        have d1 : decide (op.what < 4) = false := decide_eq_false c1
        by_cases c2 : 9 < op.what
        · have d2 : decide (9 < op.what) = true := decide_eq_true c2
          have hh : op.what < 4 ∨ 9 < op.what := .inr c2
          have hf0 := HER.out hh
          have bf1 : (rr.1.2 == 0) = false := by simpa using hf0
          have b4 : (op.what == 4) = false := by simp; omega
          have b5 : (op.what == 5) = false := by simp; omega
          go_wp2
          go_roundw
          case rel => exact INV.out _ S1.out
          case measure => have := HK.out.1; simp [intOf]; omega
        have d2 : decide (9 < op.what) = false := decide_eq_false c2
        by_cases hf0 : rr.1.2 = 0
        · have bf1 : (rr.1.2 == 0) = true := by simpa using hf0
          by_cases h4 : op.what = 4
          · have b4 : (op.what == 4) = true := by simpa using h4
            go_wp2
            go_roundw
            case rel => exact INV.out _ (S2.out (.inl h4) hf0)
            case measure => have := HK.out.1; simp [intOf]; omega
          have b4 : (op.what == 4) = false := by simpa using h4
          by_cases h5 : op.what = 5
          · have b5 : (op.what == 5) = true := by simpa using h5
            go_wp2
            go_roundw
            case rel => exact INV.out _ (S2.out (.inr h5) hf0)
            case measure => have := HK.out.1; simp [intOf]; omega
          have b5 : (op.what == 5) = false := by simpa using h5
          go_wp2
          go_roundw
          case rel => exact INV.out _ S1.out
          case measure => have := HK.out.1; simp [intOf]; omega
        · have bf1 : (rr.1.2 == 0) = false := by simpa using hf0
          by_cases h4 : op.what = 4
          · have b4 : (op.what == 4) = true := by simpa using h4
            go_wp2
            go_roundw
            case rel => exact INV.out _ S1.out
            case measure => have := HK.out.1; simp [intOf]; omega
          have b4 : (op.what == 4) = false := by simpa using h4
          by_cases h5 : op.what = 5
          · have b5 : (op.what == 5) = true := by simpa using h5
            go_wp2
            go_roundw
            case rel => exact INV.out _ S1.out
            case measure => have := HK.out.1; simp [intOf]; omega
          have b5 : (op.what == 5) = false := by simpa using h5
          go_wp2
          go_roundw
          case rel => exact INV.out _ S1.out
          case measure => have := HK.out.1; simp [intOf]; omega
    · have hlt' : ¬ (k : Int) < (len : Int) := by omega
      have H := Lib.hid HB
      clear HB hkd hdur hall hfs
      go_wp2
      go_ret
      exact ⟨rfl, H.out⟩
end Go.Proofs.YtphjpjlifdabfaaGreatDoor

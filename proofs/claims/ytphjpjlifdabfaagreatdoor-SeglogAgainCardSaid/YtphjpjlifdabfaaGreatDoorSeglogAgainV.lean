/- SeglogAgain: the walk. -/
import Derived.Test.YtphjpjlifdabfaaGreatDoorCka
import Derived.Test.YtphjpjlifdabfaaGreatDoorCkb
import Derived.Test.YtphjpjlifdabfaaGreatDoorCkc
import Derived.Test.YtphjpjlifdabfaaGreatDoorCkd
import Derived.Test.YtphjpjlifdabfaaGreatDoorCke
import Derived.Test.YtphjpjlifdabfaaGreatDoorCkf
import Derived.Test.YtphjpjlifdabfaaGreatDoorCkg
import Derived.Test.YtphjpjlifdabfaaGreatDoorCkh
import Derived.Test.YtphjpjlifdabfaaGreatDoorCki
import Derived.Test.YtphjpjlifdabfaaGreatDoorCkj
import Derived.Test.YtphjpjlifdabfaaGreatDoorCkk
import Derived.Test.YtphjpjlifdabfaaGreatDoorCkl
import Derived.Test.YtphjpjlifdabfaaGreatDoorCkm
import Derived.Test.YtphjpjlifdabfaaGreatDoorPfE
import Derived.Test.YtphjpjlifdabfaaGreatDoorPfF
import Derived.Test.YtphjpjlifdabfaaGreatDoorPfG
import Derived.BigQuiet
import Derived.Deep.QuietTactic
namespace Go.Proofs.YtphjpjlifdabfaaGreatDoor
set_option linter.unusedSimpArgs false
set_option linter.unusedVariables false
open Go.RowKit Go.Sort Go.Maps
open Crc Frm
open Sgn
attribute [local go_sem] Oper.semAt_some

theorem OgsIn.at_laterA {w w' : World} {B : Nat} {a : Option Addr} {len cap : Nat} {l : List OgV} (h : OgsIn w B a len cap l) (hb : Below B w w') {k : Nat} (hk : k < len) : ∃ b o op, a = some ⟨b, o, none⟩ ∧ l[k]? = some op ∧
    (w'.cell? ⟨b, o + k * 5, none⟩ = some (.int .i64 op.what) ∧ w'.cell? ⟨b, o + k * 5 + 1, none⟩ = some (.int .i64 op.kind) ∧ w'.cell? ⟨b, o + k * 5 + 2, none⟩ = some (.slice op.ba op.bs.length op.bc) ∧
      w'.cell? ⟨b, o + k * 5 + 3, none⟩ = some (.int .i64 op.n) ∧ w'.cell? ⟨b, o + k * 5 + 4, none⟩ = some (.slice op.ka op.ks.length op.kc)) ∧ OgIn w' B op := by
  have h' := h.below hb (Nat.le_refl _)
  obtain ⟨b, o, e, _, hc⟩ := h'.at_ (by omega)
  have hl := h.length
  have hop : l[k]? = some (l[k]'(by omega)) := List.getElem?_eq_getElem (by omega)
  obtain ⟨hj, hi⟩ := hc k _ hop
  exact ⟨b, o, _, e, hop, ⟨hj 0 (by omega), hj 1 (by omega), hj 2 (by omega), hj 3 (by omega), hj 4 (by omega)⟩, hi⟩
/-- The log behind k calls. -/
def AgainR (w1 : World) (dp lp n len : Nat) (x i : Value) (wr : World) : Prop :=
  ∃ (k : Nat) (g : Lg) (t : St) (D : Nat → Prop) (sa : Option Addr) (sc : Nat) (fs : List Fr) (S : Int), k ≤ len ∧ x = .pointer (some ⟨lp, 0, none⟩) ∧ i = .int .i64 (k : Int) ∧ LK w1 wr dp lp n g t D sa sc ∧ LDur g t fs S
set_option linter.unusedSimpArgs false in
set_option maxRecDepth 100000 in
set_option maxHeartbeats 6400000 in
theorem seglogAgain_walk {room nb : Int} (hroom : 0 ≤ room ∧ room ≤ 65535) (hnb : 0 ≤ nb ∧ nb ≤ 255) {a : Option Addr} {len cap : Nat} {l : List OgV} {w : World} (hL : Laid w) (ho : OgsIn w w.heap.size a len cap l) {ka : Option Addr} {kn kc : Nat} {ks : List Int} (hrow : Row w w.heap.size ka kn kc 1 (intsC ks)) (hks : ks.length = kn) :
    Calls Tryz.prog 6 #[.int .u16 room, .int .u8 nb, .slice a len cap, .slice ka kn kc] w fun e w' => e = .returned (.bool true) ∧ Below w.heap.size w w' := by
  obtain ⟨r, rfl⟩ := Int.eq_ofNat_of_zero_le hroom.1
  obtain ⟨m, rfl⟩ := Int.eq_ofNat_of_zero_le hnb.1
  have hmx := ho.max
  have hle := ho.le
  unfold maxLen at hmx
  have HO := Lib.hid ho
  have v1 : IntKind.i64.wrap (r : Int) = (r : Int) := by rw [IntKind.wrap_i64]; omega
  have v2 : IntKind.i64.wrap (m : Int) = (m : Int) := by rw [IntKind.wrap_i64]; omega
  have v3 : IntKind.i64.wrap (64 + (m : Int)) = ((64 + m : Nat) : Int) := by rw [IntKind.wrap_i64]; omega
  have KR : Hid (∀ x, Below w.heap.size w x → Row x x.heap.size ka kn kc 1 (intsC ks)) := fun x hx => (hrow.below hx (Nat.le_refl _)).more hx.size
  have KF : Hid (0 < kn → ∀ k o, ka = some ⟨k, o, none⟩ → k < w.heap.size) := fun hp k o e => by
    obtain ⟨b', o', e', hlt, _⟩ := hrow.at_ hp
    rw [e] at e'
    injection e' with e'
    injection e' with e1 e2
    omega
  have kle := hrow.le
  have kmx := hrow.max
  unfold maxLen at kmx
  clear ho hrow
  go_enter Tryz.func6, Tryz.ntmps6
  go_wp2_with fail
  refine (head6_any _ hL).mono ?_
  rintro e w1 ⟨rfl, b1⟩
  have B1 := Lib.hid b1
  have L1 := Lib.hid (hL.on b1)
  clear b1 hL
  have N1 := Lib.hid (DK.new r (by omega) w1)
  go_wp2_with fail
  refine N1.out.mono ?_
  rintro e w2 ⟨dp, O, rfl, hk, hb2, _⟩
  have K := Lib.hid hk
  have B2 := Lib.hid (B1.out.trans (hb2.mono B1.out.size))
  clear hk hb2 N1
  have GR := Lib.hid (great6_any a len cap l w2 ((HO.out.below B2.out (Nat.le_refl _)) |> fun h => ⟨h.length, h.le, h.max, fun hp => by obtain ⟨b, o, e, hlt, hc⟩ := h.at_ hp; exact ⟨b, o, e, Nat.lt_of_lt_of_le hlt B2.out.size, fun k op hop => ⟨(hc k op hop).1, (hc k op hop).2.below (Below.refl w2.heap.size w2) B2.out.size⟩⟩⟩))
  go_wp2_with fail
  refine GR.out.mono ?_
  rintro e w3 ⟨g0, rfl, hg, hb3⟩
  have K3 := Lib.hid (K.out.on hb3)
  have B3 := Lib.hid (B2.out.trans (hb3.mono B2.out.size))
  have HG := Lib.hid hg
  clear hb3 hg GR K B2
  cases g0
  rotate_left
  · clear HG
    go_wp2
    go_ret
    exact ⟨rfl, B3.out⟩
  have h120 := HG.out rfl
  clear HG
  by_cases hk3 : (300 : Int) < (kn : Int)
  · have d3 : decide ((300 : Int) < (kn : Int)) = true := decide_eq_true hk3
    go_wp2
    go_ret
    exact ⟨rfl, B3.out⟩
  have d3 : decide ((300 : Int) < (kn : Int)) = false := decide_eq_false hk3
  have OP := Lib.hid (lgopen_any K3.out L1.out (size := 64 + m) (by omega) (by omega))
  go_wp2_with fail
  refine OP.out.mono ?_
  rintro e w4 hO
  rcases open_new r (size := ((64 + m : Nat) : Int)) (by omega) (by omega) with ⟨hn, h5⟩ | ⟨t', hop, hdur⟩
  · obtain ⟨rfl, hmv⟩ := hO.nope hn
    obtain ⟨O4, k4, _, _⟩ := hmv.far
    have B4 := Lib.hid (B1.out.trans (k4.below.mono B1.out.size))
    have CR := open_new_crash (room := r) (by omega) (size := ((64 + m : Nat) : Int)) (by omega) (by omega) hn k4.good ks
    have CC := Lib.hid (k4.crash ks ka kn kc (KR.out _ B4.out) hks (fun hp k o e hO => by have := KF.out hp k o e; have := k4.base k hO; have := B1.out.size; omega))
    rw [CR] at CC
    rw [h5]
    clear hO CR hmv k4 OP
    go_wp2_with fail
    go_loopw [12, 14] (fun x i wr => x = .pointer none ∧ i = .int .i64 (0 : Int) ∧ wr = w4) (fun _ _ _ => 0)
    case atStart => exact ⟨rfl, rfl, rfl⟩
    case round =>
      obtain ⟨rfl, rfl, rfl⟩ := hrel
      by_cases h0 : 0 < len
      · have d0 : decide ((0 : Int) < (len : Int)) = true := by simp; omega
        go_wp2_with fail
        refine CC.out.mono ?_
        rintro e w5 ⟨rfl, O5, k5, b5, f5⟩
        have OP := Lib.hid (lgopen_any k5 L1.out (size := 64 + m) (by omega) (by omega))
        clear k5 b5 f5 CC
        go_wp2_with fail
        refine OP.out.mono ?_
        rintro e w6 hO
        obtain ⟨rfl, hmv⟩ := hO.nope hn
        rw [h5]
        obtain ⟨O6, k6, _, _⟩ := hmv.far
        have B6 := Lib.hid (B1.out.trans (k6.below.mono B1.out.size))
        clear hO hn h5 hmv k6 OP
        go_wp2
        go_ret
        exact ⟨rfl, B6.out⟩
      · have d0 : decide ((0 : Int) < (len : Int)) = false := by simp; omega
        go_wp2_with fail
        refine CC.out.mono ?_
        rintro e w5 ⟨rfl, O5, k5, b5, f5⟩
        have OP := Lib.hid (lgopen_any k5 L1.out (size := 64 + m) (by omega) (by omega))
        clear k5 b5 f5 CC
        go_wp2_with fail
        refine OP.out.mono ?_
        rintro e w6 hO
        obtain ⟨rfl, hmv⟩ := hO.nope hn
        rw [h5]
        obtain ⟨O6, k6, _, _⟩ := hmv.far
        have B6 := Lib.hid (B1.out.trans (k6.below.mono B1.out.size))
        clear hO hn h5 hmv k6 OP
        go_wp2
        go_ret
        exact ⟨rfl, B6.out⟩
  rw [hop] at hO
  obtain ⟨lp, D, sa, sc, rfl, hk, _, hge, _⟩ := hO.some_
  have R0 : Hid (AgainR w1 dp lp (64 + m) len (.pointer (some ⟨lp, 0, none⟩)) (.int .i64 (0 : Int)) w4) := Lib.hid ⟨0, _, _, D, sa, sc, [], 0, Nat.zero_le _, rfl, rfl, hk, hdur⟩
  clear hO hop hdur hk hge OP K3 B3
  go_wp2_with fail
  go_loopw [12, 14] (fun x i wr => AgainR w1 dp lp (64 + m) len x i wr) (fun _ i _ => len - (intOf i).toNat)
  case atStart => exact R0.out
  case round =>
    obtain ⟨k, g, t, D, sa, sc, fs, S, hk, rfl, rfl, hkd, hdur⟩ := hrel
    have HB := B1.out.trans (hkd.dk.below.mono B1.out.size)
    by_cases hlt : k < len
    · obtain ⟨b, o, op, rfl, hop, ⟨e0, e1, e2, e3, e4⟩, hin⟩ := HO.out.at_laterA HB hlt
      obtain ⟨wa, hwa⟩ : ∃ wa, wa = wr.alloc (.cells #[.int .i64 op.what, .int .i64 op.kind, .slice op.ba op.bs.length op.bc, .int .i64 op.n, .slice op.ka op.ks.length op.kc] 41) := ⟨_, rfl⟩
      have hba : Below wr.heap.size wr wa := by rw [hwa]; exact (Below.refl _ _).alloc (Nat.le_refl _) _
      have hbv : wa.heap[wr.heap.size]? = some (.cells #[.int .i64 op.what, .int .i64 op.kind, .slice op.ba op.bs.length op.bc, .int .i64 op.n, .slice op.ka op.ks.length op.kc] 41 (0, 0)) := by rw [hwa]; exact heap_alloc_new _ _
      have hz : wa.heap.size = wr.heap.size + 1 := by rw [hwa]; simp
      have hlt' : (k : Int) < (len : Int) := by omega
      have hk0 : (0 : Int) ≤ (k : Int) := by omega
      have HW := Lib.hid hwa
      have HLT0 : Hid (∀ q, lO D lp sa q → q < wr.heap.size) := hkd.lt
      have K := Lib.hid (hkd.on hba)
      have KW := Lib.hid hkd
      have DU := Lib.hid hdur
      have V := Lib.hid (And.intro hbv (And.intro hba (And.intro hz HB)))
      have HK := Lib.hid (And.intro hlt (And.intro hin hop))
      have y0 : wa.cell? ⟨wr.heap.size, 0, none⟩ = some (.int .i64 op.what) := (cell_of_row _ _ 0 _ _ _ hbv).trans rfl
      clear hkd hdur hbv hba hz HB hwa hop hin hlt
      by_cases h9 : op.what = 9
      · rw [h9] at e0
        have K0 := Lib.hid KW.out
        clear HW K KW y0
        go_wp2
        go_roundw
        case rel => exact ⟨k + 1, g, t, D, sa, sc, fs, S, HK.out.1, rfl, by go_num, K0.out, DU.out⟩
        case measure => have := HK.out.1; simp [intOf]; omega
      have h9' : (op.what == 9) = false := by simpa using h9
      have DO := Lib.hid (do6_any KW.out DU.out.few.1 L1.out (by have := DU.out.few.2; omega) (by omega) op HK.out.2.1 B1.out.size h9)
      unfold ogVal Did at DO
      clear KW K HW
      go_wp2_with fail
      refine DO.out.mono ?_
      rintro e w6 ⟨rfl, hmv⟩
      obtain ⟨D6, sa6, sc6, hk6, b6, f6⟩ := hmv.far
      obtain ⟨fs', S', hd', F1, F2⟩ := DU.out.do_ (64 + m) op
      generalize lgDo (64 + m) g t op = rr at *
      have H6 := Lib.hid hk6
      have HD := Lib.hid hd'
      clear hmv hk6 b6 f6 hd' F1 F2 DO e0 e1 e2 e3 e4
      go_wp2
      go_roundw
      case rel => exact ⟨k + 1, rr.2.2, rr.2.1, D6, sa6, sc6, fs', S', HK.out.1, rfl, by go_num, H6.out, HD.out⟩
      case measure => have := HK.out.1; simp [intOf]; omega
    · have hlt' : ¬ (k : Int) < (len : Int) := by omega
      have HBH := Lib.hid HB
      have CC := Lib.hid (hkd.dk.crash ks ka kn kc (KR.out _ HB) hks (fun hp k o e hO => by have := KF.out hp k o e; have := hkd.dk.base k hO; have := B1.out.size; omega))
      have DU := Lib.hid hdur
      have GD := Lib.hid hkd.dk.good
      clear HB hkd hdur
      go_wp2_with fail
      refine CC.out.mono ?_
      rintro e w5 ⟨rfl, O5, k5, b5, f5⟩
      have OP := Lib.hid (lgopen_any k5 L1.out (size := 64 + m) (by omega) (by omega))
      have G5 := Lib.hid k5.good
      clear k5 b5 f5 CC
      go_wp2_with fail
      refine OP.out.mono ?_
      rintro e w6 hO
      cases hr : (lgOpen ((64 + m : Nat) : Int) (t.crash ks)).2.2 with
      | none =>
        obtain ⟨rfl, hmv⟩ := hO.nope hr
        rw [DU.out.crash_err GD.out ks G5.out (size := ((64 + m : Nat) : Int)) (by omega) hr]
        obtain ⟨O6, k6, _, _⟩ := hmv.far
        have B6 := Lib.hid (B1.out.trans (k6.below.mono B1.out.size))
        clear hO hmv k6 OP hr
        go_wp2
        go_ret
        exact ⟨rfl, B6.out⟩
      | some ga =>
        obtain ⟨fa, rest, _, hca⟩ := DU.out.calmed GD.out ks G5.out hr
        unfold OpenL at hO
        rw [hr] at hO
        simp only at hO
        generalize (lgOpen ((64 + m : Nat) : Int) (t.crash ks)).2.1 = ta at *
        obtain ⟨la, Da, sa', sc', rfl, hka, _, _, _⟩ := hO
        have hs : ¬ (((64 + m : Nat) : Int) < 64 ∨ 65536 < ((64 + m : Nat) : Int)) := by omega
        obtain ⟨tb, eb, rb, db, hcb⟩ := hca.open_ hka.dk.good hs
        have KA := Lib.hid hka
        have LS := Lib.hid hka.dk.list
        have HS := Lib.hid hs
        have CB := Lib.hid (And.intro eb (And.intro rb (And.intro db hcb)))
        clear hka hca hr OP hs eb rb db hcb
        go_wp2_with fail
        refine LS.out.mono ?_
        rintro e w7 hN
        obtain ⟨gn, cn, rfl, hrn, hgn, hb7⟩ := hN.out
        have K7 := Lib.hid (KA.out.on hb7)
        have R7 := Lib.hid (And.intro hrn (And.intro hgn hb7.size))
        have US := Lib.hid K7.out.dk.used
        clear hN hrn hgn hb7 LS
        go_wp2_with fail
        refine US.out.mono ?_
        rintro e w8 ⟨rfl, hb8⟩
        have K8 := Lib.hid (K7.out.on hb8)
        have R8 := Lib.hid ((R7.out.1.below hb8 (Nat.le_refl _)).more hb8.size)
        have S8 := Lib.hid hb8.size
        have OP := Lib.hid (lgopen_any K8.out.dk L1.out (size := 64 + m) (by omega) (by omega))
        clear hb8 US
        rw [CB.out.1] at OP
        go_wp2_with fail
        refine OP.out.mono ?_
        rintro e w9 hO
        obtain ⟨lb, Db, sb, sbc, rfl, hkb, hbb, _, hfb⟩ := hO.some_
        have LA : Hid (∀ k, Da k → k < w6.heap.size) := KA.out.dk.lt
        have GN : Hid (0 < (strKeys ta.D).length → gn < w8.heap.size) := fun hp => by
          obtain ⟨b', o', e', hlt, _⟩ := R8.out.at_ hp
          injection e' with e'
          injection e' with e1 e2
          omega
        have ka9 := K8.out.but hkb.dk hbb (fun k hk => hfb k (.inl hk))
        have r9 := R8.out.but hbb (fun _ k o e hO => by injection e with e; injection e with e1 e2; have := LA.out k hO; have := R7.out.2.1; omega)
        have hn9 : 0 < (strKeys ta.D).length → ¬ Db gn := fun hp hO => by
          have h1 := GN.out hp
          have h2 := R7.out.2.1
          rcases hfb gn (.inl hO) with h3 | h3
          · have := LA.out _ h3; omega
          · omega
        have CC := Lib.hid (hkb.dk.crash [] none 0 0 ⟨Nat.le_refl _, Nat.zero_le _, fun h => absurd h (by decide)⟩ rfl (fun hp => absurd hp (by decide)))
        have K9 := Lib.hid (And.intro ka9 hkb)
        have R9 := Lib.hid (And.intro r9 hn9)
        have S9 := Lib.hid (And.intro hbb.size hkb.dk.good)
        clear hO hkb hbb hfb ka9 r9 hn9 OP K8 R8
        go_wp2_with fail
        refine CC.out.mono ?_
        rintro e w10 ⟨rfl, D10, k10, b10, f10⟩
        obtain ⟨hd10, hc10⟩ := CB.out.2.2.2.crash S9.out.2 [] k10.good
        obtain ⟨tc, ec, rc, dc, hcc⟩ := hc10.open_ k10.good HS.out
        have hn10 : 0 < (strKeys ta.D).length → ¬ D10 gn := fun hp hO => by
          have h1 := GN.out hp
          have h2 := S9.out.1
          rcases f10 gn hO with h3 | h3
          · exact R9.out.2 hp h3
          · omega
        have OP := Lib.hid (lgopen_any k10 L1.out (size := 64 + m) (by omega) (by omega))
        have K10 := Lib.hid (And.intro (K9.out.1.but k10 b10 f10) (K9.out.2.but k10 b10 f10))
        have R10 := Lib.hid (And.intro (R9.out.1.but b10 (fun hp k o e hO => by injection e with e; injection e with e1 e2; subst e1; exact R9.out.2 hp hO)) hn10)
        have CD := Lib.hid (And.intro (show tc.D = ta.D from dc.trans (hd10.trans CB.out.2.2.1)) hcc)
        rw [ec] at OP
        clear k10 b10 f10 CC hd10 hc10 ec rc dc hcc hn10 K9 R9 S9
        go_wp2_with fail
        refine OP.out.mono ?_
        rintro e w11 hO
        obtain ⟨lc, Dc, sd, sdc, rfl, hkc, hbc, _, hfc⟩ := hO.some_
        have KA := Lib.hid (K10.out.1.but hkc.dk hbc (fun k hk => hfc k (.inl hk)))
        have KB := Lib.hid (K10.out.2.but hkc.dk hbc (fun k hk => hfc k (.inl hk)))
        have KC := Lib.hid hkc
        have R11 := Lib.hid (R10.out.1.but hbc (fun hp k o e hO => by injection e with e; injection e with e1 e2; subst e1; exact R10.out.2 hp hO))
        have FW : Hid (lgFrames ga tc = fa) := CD.out.2.chain.frames
        have FE : Hid (ga.segs.length ≤ 100) := by have := (mOk_all CD.out.2.ok).2.1; show _ ≤ _; omega
        have FB := Lib.hid (frames_got KB.out L1.out FE.out FW.out)
        clear hO hkc hbc hfc OP K10 R10
        go_wp2_with fail
        refine FB.out.mono ?_
        rintro e w12 ⟨a12, c12, rfl, f12, h12⟩
        have KA12 := Lib.hid (KA.out.on h12)
        have F12 := Lib.hid (And.intro f12 h12)
        have FA := Lib.hid (frames_got KA12.out L1.out FE.out FW.out)
        clear f12 h12 FB
        go_wp2_with fail
        refine FA.out.mono ?_
        rintro e w13 ⟨a13, c13, rfl, f13, h13⟩
        have sm := same_any a12 fa.length c12 fa a13 fa.length c13 fa w13 (F12.out.1.on h13).frs f13.frs
        rw [decide_eq_true rfl] at sm
        have SM := Lib.hid sm
        have H13 := Lib.hid (F12.out.2.trans (h13.mono F12.out.2.size))
        clear f13 h13 FA sm F12 KA12
        go_wp2_with fail
        refine SM.out.mono ?_
        rintro e w14 ⟨rfl, h14⟩
        have H14 := Lib.hid (H13.out.trans (h14.mono H13.out.size))
        have FB := Lib.hid (frames_got (KC.out.on H14.out) L1.out FE.out FW.out)
        clear h14 SM H13
        go_wp2_with fail
        refine FB.out.mono ?_
        rintro e w15 ⟨a15, c15, rfl, f15, h15⟩
        have H15 := Lib.hid (H14.out.trans (h15.mono H14.out.size))
        have F15 := Lib.hid f15
        have FA := Lib.hid (frames_got (KA.out.on H15.out) L1.out FE.out FW.out)
        clear f15 h15 FB H14
        go_wp2_with fail
        refine FA.out.mono ?_
        rintro e w16 ⟨a16, c16, rfl, f16, h16⟩
        have sm := same_any a15 fa.length c15 fa a16 fa.length c16 fa w16 (F15.out.on h16).frs f16.frs
        rw [decide_eq_true rfl] at sm
        have SM := Lib.hid sm
        have H16 := Lib.hid (H15.out.trans (h16.mono H15.out.size))
        clear f16 h16 FA sm F15 H15
        go_wp2_with fail
        refine SM.out.mono ?_
        rintro e w17 ⟨rfl, h17⟩
        have H17 := Lib.hid (H16.out.trans (h17.mono H16.out.size))
        have NA := Lib.hid (lgnext_any (KA.out.on H17.out))
        have NB := Lib.hid (lgnext_any (KB.out.on H17.out))
        have NC := Lib.hid (lgnext_any (KC.out.on H17.out))
        have LS := Lib.hid (KC.out.on H17.out).dk.list
        have K17 := Lib.hid (KC.out.on H17.out)
        have R17 := Lib.hid ((R11.out.below H17.out (Nat.le_refl _)).more H17.out.size)
        rw [CD.out.1] at LS
        clear h17 SM H16 KA KB KC R11
        go_wp2_with fail
        refine NB.out.mono ?_
        rintro e w9 ⟨rfl, rfl⟩
        go_wp2_with fail
        refine NA.out.mono ?_
        rintro e w9 ⟨rfl, rfl⟩
        go_wp2_with fail
        refine NC.out.mono ?_
        rintro e w9 ⟨rfl, rfl⟩
        go_wp2_with fail
        refine NA.out.mono ?_
        rintro e w9 ⟨rfl, rfl⟩
        go_wp2_with fail
        refine LS.out.mono ?_
        rintro e w18 hN
        obtain ⟨g2, c2, rfl, hr2, hg2, hb18⟩ := hN.out
        have SM := Lib.hid (sameStr_any (strKeys ta.D) _ _ c2 cn w18 hr2 ((R17.out.below hb18 (Nat.le_refl _)).more hb18.size))
        have K18 := Lib.hid (K17.out.on hb18)
        clear hN hr2 hg2 hb18 LS NA NB NC K17
        go_wp2_with fail
        refine SM.out.mono ?_
        rintro e w19 ⟨rfl, h19⟩
        have K19 := Lib.hid (K18.out.on h19)
        have US := Lib.hid K19.out.dk.used
        rw [CD.out.1] at US
        clear h19 SM K18
        go_wp2_with fail
        refine US.out.mono ?_
        rintro e w20 ⟨rfl, h20⟩
        have B20 := Lib.hid (B1.out.trans ((K19.out.on h20).dk.below.mono B1.out.size))
        clear h20 US K19
        go_wp2
        go_ret
        exact ⟨rfl, B20.out⟩
end Go.Proofs.YtphjpjlifdabfaaGreatDoor

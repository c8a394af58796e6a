/- The walk of ManifestWhole. -/
import Derived.Test.YtkklofchgmbdnaaMfX
import Derived.Test.YtkklofchgmbdnaaMfI
import Derived.Test.YtkklofchgmbdnaaTake
import Derived.Deep.CutRange
import Derived.Deep.DeepCutAuto
namespace Go.Proofs.Ytkklofchgmbdnaa
open Go.RowKit Go.Sort
open Go.Maps
attribute [local go_sem] Oper.semAt_some

/-- A disk of these files is there. -/
def KD (w0 w : World) (dp : Nat) (D : FS) (room : Nat) : Prop := ∃ t O, DK w0 w dp t O ∧ t.D = D ∧ t.room = room
theorem atWorld {w w1 x : World} {dp : Nat} {t : St} {O : Nat → Prop} (hB : Below w.heap.size w w1) (hk : DK w1 x dp t O) : Below w.heap.size w x := hB.trans (hk.below.mono hB.size)
theorem rowAt {w w1 x : World} {dp : Nat} {t : St} {O : Nat → Prop} {a : Option Addr} {n c m : Nat} {cs : Nat → Value} (hr : Row w w.heap.size a n c m cs) (hB : Below w.heap.size w w1) (hk : DK w1 x dp t O) : Row x x.heap.size a n c m cs := hr.on (atWorld hB hk)
theorem farAt {w w1 x : World} {dp : Nat} {t : St} {O : Nat → Prop} {a : Option Addr} {n c m : Nat} {cs : Nat → Value} (hr : Row w w.heap.size a n c m cs) (hB : Below w.heap.size w w1) (hk : DK w1 x dp t O) : Far O a n := fun hp k o e hO => by
  obtain ⟨b', o', e', hlt, _⟩ := hr.at_ hp
  rw [e] at e'
  injection e' with e'
  injection e' with e1 e2
  have := hk.base k hO
  have := hB.size
  omega
theorem farNew {w0 w : World} {dp : Nat} {t : St} {O : Nat → Prop} (hk : DK w0 w dp t O) {a : Option Addr} {n : Nat} (h : ∀ k o, a = some ⟨k, o, none⟩ → w.heap.size ≤ k) : Far O a n := fun _ k o e hO => by
  have := hk.lt k hO
  have := h k o e
  omega
set_option linter.unusedSimpArgs false in
set_option maxRecDepth 100000 in
set_option maxHeartbeats 6400000 in
theorem manifestWhole_walk (room : Nat) (hroom : room < 256) (la : List Int) (a : Option Addr) (na ca : Nat) (lb : List Int) (b : Option Addr) (nb cb : Nat) (fz : Nat) (hfz : fz < 256) (fail : Bool) (ks : List Int) (k : Option Addr) (nk ck : Nat) (w : World)
    (hra : Row w w.heap.size a na ca 1 (intsC la)) (hna : la.length = na) (hrb : Row w w.heap.size b nb cb 1 (intsC lb)) (hnb : lb.length = nb) (hrk : Row w w.heap.size k nk ck 1 (intsC ks)) (hnk : ks.length = nk) :
    Calls Try.prog 6 #[.int .u8 (room : Int), .slice a na ca, .slice b nb cb, .int .u8 (fz : Int), .bool fail, .slice k nk ck] w fun e w' => e = .returned (.bool true) ∧ Below w.heap.size w w' := by
  have hcm1 := hra.max
  have hle1 := hra.le
  have hcm2 := hrb.max
  have hle2 := hrb.le
  have hcm3 := hrk.max
  have hle3 := hrk.le
  unfold maxLen at hcm1 hcm2 hcm3
  have H1 := Lib.hid (head5_any w)
  have RA := Lib.hid (And.intro hra hna)
  have RB := Lib.hid (And.intro hrb hnb)
  have RK := Lib.hid (And.intro hrk hnk)
  clear hra hna hrb hnb hrk hnk
  have wr : IntKind.i64.wrap (room : Int) = (room : Int) := by rw [IntKind.wrap_i64]; omega
  go_enter Try.func6, Try.ntmps6
  go_wp2_with fail
  refine H1.out.mono ?_
  rintro e w1 ⟨rfl, hb1⟩
  have B1 := Lib.hid hb1
  have N1 := Lib.hid (DK.new room (by omega) w1)
  clear hb1 H1
  go_wp2_with fail
  refine N1.out.mono ?_
  rintro e w2 ⟨dp, O2, rfl, hk, _, _⟩
  have K2 := Lib.hid hk
  clear hk N1
  by_cases h1 : 900 < na
  · go_wp2
    go_ret
    exact ⟨rfl, atWorld B1.out K2.out⟩
  by_cases h2 : 900 < nb
  · go_wp2
    go_ret
    exact ⟨rfl, atWorld B1.out K2.out⟩
  by_cases h3 : 900 < nk
  · go_wp2
    go_ret
    exact ⟨rfl, atWorld B1.out K2.out⟩
  have SW := mswap_any K2.out la a na ca (rowAt RA.out.1 B1.out K2.out) RA.out.2 (farAt RA.out.1 B1.out K2.out)
  have F1 := swap_done (t := ⟨.map [], room, -1, 0⟩) isMap_empty la
  have F2 := isMap_swap (t := ⟨.map [], room, -1, 0⟩) isMap_empty la
  have F3 := size_swap (t := ⟨.map [], room, -1, 0⟩) isMap_empty la
  have F4 := room_swap ⟨.map [], room, -1, 0⟩ la
  generalize mSwap ⟨.map [], room, -1, 0⟩ la = r1 at *
  obtain ⟨x1, t1⟩ := r1
  have F3 : size t1.D ≤ 4 := Nat.le_trans F3 (Nat.le_refl 4)
  have F4 : t1.room = room := F4
  have F2 : IsMap t1.D := F2
  have SW := Lib.hid SW
  have F1 := Lib.hid F1
  have F2 := Lib.hid F2
  go_wp2_with fail
  refine SW.out.mono ?_
  rintro e w3 ⟨rfl, hmv⟩
  obtain ⟨O3, k3, _, _⟩ := hmv.far
  have K3 := Lib.hid k3
  clear hmv k3 SW K2
  try simp only [] at *
  by_cases hx1 : x1 ≠ 0
  · have y1 : (x1 == 0) = false := by simp [hx1]
    have y2 : (x1 != 0) = true := by simp [hx1]
    go_wp2
    go_ret
    exact ⟨rfl, atWorld B1.out K3.out⟩
  have hx1 : x1 = 0 := by simpa using hx1
  subst hx1
  obtain ⟨hoka, hasa⟩ := F1.out rfl
  have HA := Lib.hid (And.intro hoka hasa)
  clear hoka hasa F1
  have F3 := Lib.hid F3
  have F4 := Lib.hid F4
  go_upto_if 52 with fail
  go_cut [13] from 52 to 57 (fun v wx => v = .bool true ∧ KD w1 wx dp t1.D room)
  case first =>
    by_cases hf : fz < 200
    · obtain ⟨q, hq⟩ : ∃ q, q = fz % 6 := ⟨_, rfl⟩
      have q1 : ((fz : Nat) : Int).tmod 6 = (q : Int) := by rw [hq]; rfl
      have q2 : ((fz : Nat) : Int) % 6 = (q : Int) := by rw [hq]; rfl
      have q3 : IntKind.i64.wrap (q : Int) = (q : Int) := by rw [IntKind.wrap_i64]; omega
      have q4 : IntKind.u8.wrap (q : Int) = (q : Int) := by rw [IntKind.wrap_u8]; omega
      have FU := Lib.hid (K3.out.fuse (q : Int) (by omega))
      clear hq
      go_wp2_with fail
      refine FU.out.mono ?_
      rintro e w4 ⟨rfl, hmv⟩
      have HM := Lib.hid hmv
      clear hmv FU
      go_wp2
      go_meet
      case rel =>
        obtain ⟨O4, k4, _, _⟩ := HM.out
        exact ⟨rfl, _, O4, k4, rfl, F4.out⟩
    · go_wp2
      go_meet
      case rel => exact ⟨rfl, t1, O3, K3.out, rfl, F4.out⟩
  case rest =>
  obtain ⟨rfl, t2, O4, k4, hD2, hR2⟩ := hcut
  have K4 := Lib.hid k4
  have H2 := Lib.hid (And.intro hD2 hR2)
  clear k4 hD2 hR2 K3 F4
  go_upto_if 58 with fail
  go_cut [13] from 58 to 60 (fun v wx => v = .bool true ∧ KD w1 wx dp t1.D room)
  case first =>
    cases fail with
    | true =>
      have FU := Lib.hid (K4.out.fail 1 (by decide))
      go_wp2_with fail
      refine FU.out.mono ?_
      rintro e w5 ⟨rfl, hmv⟩
      have HM := Lib.hid hmv
      clear hmv FU
      go_wp2
      go_meet
      case rel =>
        obtain ⟨O5, k5, _, _⟩ := HM.out
        exact ⟨rfl, _, O5, k5, H2.out.1, H2.out.2⟩
    | false =>
      go_wp2
      go_meet
      case rel => exact ⟨rfl, t2, O4, K4.out, H2.out.1, H2.out.2⟩
  case rest =>
  obtain ⟨rfl, t3, O5, k5, hD3, hR3⟩ := hcut
  have K5 := Lib.hid k5
  clear k5 H2 K4
  have SW := mswap_any K5.out lb b nb cb (rowAt RB.out.1 B1.out K5.out) RB.out.2 (farAt RB.out.1 B1.out K5.out)
  have hm3 : IsMap t3.D := by rw [hD3]; exact F2.out
  have G1 := swap_done hm3 lb
  have G2 := isMap_swap hm3 lb
  have G3 := size_swap hm3 lb
  have G4 := (room_swap t3 lb).trans hR3
  have G5 := swap_keeps t3 lb
  have hs3 : size t3.D ≤ 4 := by rw [hD3]; exact F3.out
  have hasa : Has t3.D la := by rw [hD3]; exact HA.out.2
  generalize mSwap t3 lb = r3 at *
  obtain ⟨x3, t4⟩ := r3
  have G3 : size t4.D ≤ 8 := Nat.le_trans G3 (by omega)
  have hz : ∃ lz, mOk lz = true ∧ Has t4.D lz ∧ (x3 = 0 → lz = lb) ∧ (x3 ≠ 0 → lz = la) := by
    by_cases hx : x3 = 0
    · exact ⟨lb, (G1 hx).1, (G1 hx).2, fun _ => rfl, fun h => absurd hx h⟩
    · exact ⟨la, HA.out.1, (G5 hx).trans hasa, fun h => absurd h hx, fun _ => rfl⟩
  obtain ⟨lz, hzok, hzhas, hz0, hz1⟩ := hz
  have G := Lib.hid (And.intro G2 (And.intro G3 (And.intro G4 (And.intro hzok (And.intro hzhas (And.intro hz0 hz1))))))
  have SW := Lib.hid SW
  clear G1 G2 G3 G4 G5 hs3 hasa hm3 hzok hzhas hz0 hz1 hD3 hR3
  go_wp2_with fail
  refine SW.out.mono ?_
  rintro e w6 ⟨rfl, hmv⟩
  obtain ⟨O6, k6, _, _⟩ := hmv.far
  have K6 := Lib.hid k6
  clear hmv k6 SW K5
  try simp only [] at *
  -- Load
  have LD := mload_any K6.out
  rw [load_has G.out.2.2.2.1 G.out.2.2.2.2.1] at LD
  have LD := Lib.hid LD
  go_wp2_with fail
  refine LD.out.mono ?_
  rintro e w7 ⟨v7, rfl, ho7, hb7⟩
  obtain ⟨ax, cx, hv7, hrx, hax⟩ := ho7.out
  try simp only [] at hv7 hrx
  obtain ⟨m, hm⟩ : ∃ m, m = lz.length := ⟨_, rfl⟩
  rw [← hm] at hv7 hrx
  subst hv7
  have HMm := Lib.hid hm.symm
  have K7 := Lib.hid (K6.out.on hb7)
  have X7 : Hid (Row w7 w7.heap.size ax m cx 1 (intsC lz) ∧ Far O6 ax m) := Lib.hid ⟨hrx, farNew K6.out hax⟩
  clear ho7 hb7 hrx hax LD K6 hm
  -- Crash
  have CR := Lib.hid (K7.out.crash ks k nk ck (rowAt RK.out.1 B1.out K7.out) RK.out.2 (farAt RK.out.1 B1.out K7.out))
  have hcr := Lib.hid (has_crash K7.out.good ks G.out.2.2.2.2.1)
  go_wp2_with fail
  refine CR.out.mono ?_
  rintro e w8 ⟨rfl, hmv⟩
  obtain ⟨O8, k8, b8, f8⟩ := hmv.far
  have K8 := Lib.hid k8
  have X8 := Lib.hid (Row.mv X7.out b8 f8).1
  clear hmv k8 b8 f8 CR K7 X7
  -- Load again
  have LD := mload_any K8.out
  rw [load_has G.out.2.2.2.1 hcr.out] at LD
  have LD := Lib.hid LD
  go_wp2_with fail
  refine LD.out.mono ?_
  rintro e w9 ⟨v9, rfl, ho9, hb9⟩
  obtain ⟨ay, cy, hv9, hry, _⟩ := ho9.out
  try simp only [] at hv9 hry
  rw [HMm.out] at hv9 hry
  subst hv9
  have K9 := Lib.hid (K8.out.on hb9)
  have X9 := Lib.hid (X8.out.on hb9)
  have Y9 := Lib.hid hry
  have SM := rsame_any lz lz ax ay m m cx cy w9 X9.out Y9.out HMm.out HMm.out
  rw [decide_eq_true rfl] at SM
  have SM := Lib.hid SM
  clear ho9 hb9 hry LD K8 X8 X9
  go_wp2_with fail
  refine SM.out.mono ?_
  rintro e w10 ⟨rfl, hb10⟩
  have K10 := Lib.hid (K9.out.on hb10)
  have Y10 := Lib.hid (Y9.out.on hb10)
  clear hb10 SM K9 Y9
  by_cases hx3 : x3 = 0
  · subst hx3
    have hlz := G.out.2.2.2.2.2.1 rfl
    have SM := rsame_any lz lb ay b m nb cy cb w10 Y10.out (rowAt RB.out.1 B1.out K10.out) HMm.out RB.out.2
    rw [decide_eq_true hlz] at SM
    have SM := Lib.hid SM
    clear hlz
    go_wp2_with fail
    refine SM.out.mono ?_
    rintro e w11 ⟨rfl, hb11⟩
    have B11 := Lib.hid ((atWorld B1.out K10.out).trans (hb11.mono (atWorld B1.out K10.out).size))
    clear hb11
    go_wp2
    go_ret
    exact ⟨rfl, B11.out⟩
  · have y1 : (x3 == 0) = false := by simp [hx3]
    have y2 : (x3 != 0) = true := by simp [hx3]
    have hlz := G.out.2.2.2.2.2.2 hx3
    have SM := rsame_any lz la ay a m na cy ca w10 Y10.out (rowAt RA.out.1 B1.out K10.out) HMm.out RA.out.2
    rw [decide_eq_true hlz] at SM
    have SM := Lib.hid SM
    clear hlz
    go_wp2_with fail
    refine SM.out.mono ?_
    rintro e w11 ⟨rfl, hb11⟩
    have K11 := Lib.hid (K10.out.on hb11)
    clear hb11 SM K10 Y10
    have SW := mswap_any K11.out lb b nb cb (rowAt RB.out.1 B1.out K11.out) RB.out.2 (farAt RB.out.1 B1.out K11.out)
    have hmc : IsMap (t4.crash ks).D := canon_map K11.out.good.canon
    have hfit := swap_fits (t := t4.crash ks) hmc rfl rfl (by rw [size_crash]; have := G.out.2.1; omega) (l := lb)
    have hrm := room_swap (t4.crash ks) lb
    generalize mSwap (t4.crash ks) lb = r5 at *
    obtain ⟨x5, t5⟩ := r5
    have SW := Lib.hid SW
    have hfit := Lib.hid hfit
    have hrm := Lib.hid hrm
    go_wp2_with fail
    refine SW.out.mono ?_
    rintro e w12 ⟨rfl, hmv⟩
    obtain ⟨O12, k12, _, _⟩ := hmv.far
    have K12 := Lib.hid k12
    clear hmv k12 SW K11
    try simp only [] at *
    by_cases hx5 : x5 = 0
    · subst hx5
      go_wp2
      go_ret
      exact ⟨rfl, atWorld B1.out K12.out⟩
    · have z1 : (x5 == 0) = false := by simp [hx5]
      have z2 : (x5 != 0) = true := by simp [hx5]
      have RT := Lib.hid (mright_any lb b nb cb w12 (rowAt RB.out.1 B1.out K12.out) RB.out.2)
      by_cases hokb : mOk lb = true
      · have hf := hfit.out hokb hx5
        rw [hokb] at RT
        have UC := Lib.hid K12.out.used
        have hU := K12.out.good.tot_
        have hR5 : t5.room = room := hrm.out.trans G.out.2.2.1
        rw [hR5] at hU
        have hfr : room < 2 * tot t5.D + 200 := by have e9 : (t4.crash ks).room = room := G.out.2.2.1; omega
        generalize tot t5.D = U at *
        obtain ⟨V, hV⟩ : ∃ V, V = 2 * U + 200 := ⟨_, rfl⟩
        have u1 : IntKind.i64.wrap (2 * (U : Int)) = 2 * (U : Int) := by rw [IntKind.wrap_i64]; omega
        have u2 : IntKind.i64.wrap (2 * (U : Int) + 200) = (V : Int) := by rw [IntKind.wrap_i64]; omega
        have u3 : room < V := by omega
        have u4 : decide ((room : Int) < (V : Int)) = true := by simp; omega
        clear hf hU hR5 hfr hV
        go_wp2_with fail
        refine RT.out.mono ?_
        rintro e w13 ⟨rfl, rfl⟩
        go_wp2_with fail
        refine UC.out.mono ?_
        rintro e w14 ⟨rfl, hb14⟩
        have B14 := Lib.hid ((atWorld B1.out K12.out).trans (hb14.mono (atWorld B1.out K12.out).size))
        clear hb14 UC RT
        go_wp2
        go_ret
        exact ⟨rfl, B14.out⟩
      · have hno : mOk lb = false := by simpa using hokb
        rw [hno] at RT
        go_wp2_with fail
        refine RT.out.mono ?_
        rintro e w13 ⟨rfl, rfl⟩
        go_wp2
        go_ret
        exact ⟨rfl, atWorld B1.out K12.out⟩
end Go.Proofs.Ytkklofchgmbdnaa

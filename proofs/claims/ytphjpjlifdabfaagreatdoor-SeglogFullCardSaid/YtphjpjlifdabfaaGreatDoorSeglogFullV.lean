/- SeglogFull: the walk. -/
import Derived.Test.YtphjpjlifdabfaaGreatDoorCka
import Derived.Test.YtphjpjlifdabfaaGreatDoorCkb
import Derived.Test.YtphjpjlifdabfaaGreatDoorCkc
import Derived.Test.YtphjpjlifdabfaaGreatDoorCkd
import Derived.Test.YtphjpjlifdabfaaGreatDoorCke
import Derived.Test.YtphjpjlifdabfaaGreatDoorCkf
import Derived.Test.YtphjpjlifdabfaaGreatDoorCkg
import Derived.Test.YtphjpjlifdabfaaGreatDoorCkh
import Derived.Test.YtphjpjlifdabfaaGreatDoorCki
import Derived.Test.YtphjpjlifdabfaaGreatDoorCkj
import Derived.Test.YtphjpjlifdabfaaGreatDoorCkk
import Derived.Test.YtphjpjlifdabfaaGreatDoorCkl
import Derived.Test.YtphjpjlifdabfaaGreatDoorCkm
import Derived.BigQuiet
import Derived.Deep.QuietTactic
namespace Go.Proofs.YtphjpjlifdabfaaGreatDoor
set_option linter.unusedSimpArgs false
set_option linter.unusedVariables false
open Go.RowKit Go.Sort Go.Maps
open Crc Frm
open Sgn
attribute [local go_sem] Oper.semAt_some

theorem OgsIn.at_later {w w' : World} {B : Nat} {a : Option Addr} {len cap : Nat} {l : List OgV} (h : OgsIn w B a len cap l) (hb : Below B w w') {k : Nat} (hk : k < len) : ∃ b o op, a = some ⟨b, o, none⟩ ∧ l[k]? = some op ∧
    (w'.cell? ⟨b, o + k * 5, none⟩ = some (.int .i64 op.what) ∧ w'.cell? ⟨b, o + k * 5 + 1, none⟩ = some (.int .i64 op.kind) ∧ w'.cell? ⟨b, o + k * 5 + 2, none⟩ = some (.slice op.ba op.bs.length op.bc) ∧
      w'.cell? ⟨b, o + k * 5 + 3, none⟩ = some (.int .i64 op.n) ∧ w'.cell? ⟨b, o + k * 5 + 4, none⟩ = some (.slice op.ka op.ks.length op.kc)) ∧ OgIn w' B op := by
  have h' := h.below hb (Nat.le_refl _)
  obtain ⟨b, o, e, _, hc⟩ := h'.at_ (by omega)
  have hl := h.length
  have hop : l[k]? = some (l[k]'(by omega)) := List.getElem?_eq_getElem (by omega)
  obtain ⟨hj, hi⟩ := hc k _ hop
  exact ⟨b, o, _, e, hop, ⟨hj 0 (by omega), hj 1 (by omega), hj 2 (by omega), hj 3 (by omega), hj 4 (by omega)⟩, hi⟩
theorem OpenL.none_ {w0 w : World} {dp size : Nat} {D : Nat → Prop} {r : Int × St × Option Lg} {e : Ending} {w' : World} (h : OpenL w0 w dp size D r e w') (hn : r.2.2 = none) :
    e = .returned (.tuple #[.pointer none, .int .i64 r.1]) ∧ Mv w0 w dp D r.2.1 w' := by
  unfold OpenL at h
  rw [hn] at h
  exact h
theorem LK.drewN_ {w0 w : World} {dp lp size : Nat} {g : Lg} {t : St} {D : Nat → Prop} {sa : Option Addr} {sc : Nat} (h : LK w0 w dp lp size g t D sa sc) (n : Nat) : LK w0 (w.drewN n) dp lp size g t D sa sc := h.on (below_drewN (Below.refl _ _))
/-- The log behind k calls. -/
def FullR (w1 : World) (dp lp n len : Nat) (i : Value) (wr : World) : Prop :=
  ∃ (k : Nat) (g : Lg) (t : St) (D : Nat → Prop) (sa : Option Addr) (sc : Nat) (fs : List Fr) (S : Int), k ≤ len ∧ i = .int .i64 (k : Int) ∧ LK w1 wr dp lp n g t D sa sc ∧ LDur g t fs S
theorem LDur.next_le {g : Lg} {t : St} {fs : List Fr} {S : Int} (h : LDur g t fs S) : -1073741824 ≤ g.next := by
  obtain ⟨x, hx⟩ := List.exists_mem_of_ne_nil _ h.inv.chain.ne
  have := h.inv.chain.order.1 x hx
  omega
def cutA3 (a : Option Addr) (cap k : Nat) : Option Addr := if cap = k then a else a.map (·.add (k * 3))
theorem run_cut3f {P : Program} (t e : TypeId) (ht : P.underlying t = some (.slice e)) {z : Value} {by_ : Nat} (hi : (P.info? e).map (fun i => (i.zero, i.size, i.bytes)) = some (some z, 3, by_)) (a : Option Addr) (len cap k : Nat) (hk : k ≤ len) (w : World) :
    (Instr.slice t (.slice a len cap) (some (.int .i64 (k : Int))) none none).run P w = .ok (.slice (cutA3 a cap k) (len - k) (cap - k)) w := by
  obtain ⟨i, hi, _, hz1, _⟩ := info_parts hi
  have hs : (sizeOf e).run P w = .ok 3 w := by simp [sizeOf, typeInfo, hi, hz1]
  have ht' : P.underlying t = some (.slice (P.elem t)) := by simp [Program.elem, ht]
  have he : P.elem t = e := by simp [Program.elem, ht]
  rw [run_slice_l w t _ _ _ ht' .i64 _ (by omega) (by omega), he, hs]
  simp [Result.andThen, sliced, cutA3]
theorem Frs.from_ {w : World} {B : Nat} {a : Option Addr} {len cap : Nat} {fs : List Fr} (h : Frs w B a len cap fs) {k : Nat} (hk : k ≤ len) : Frs w B (cutA3 a cap k) (len - k) (cap - k) (fs.drop k) :=
  ⟨by rw [List.length_drop, h.length], by have := h.le; omega, by have := h.max; omega, fun hp => by
    obtain ⟨b, o, e, hlt, hc⟩ := h.at_ (by omega)
    have hle := h.le
    refine ⟨b, o + k * 3, by unfold cutA3; rw [if_neg (by omega), e]; simp [Addr.add], hlt, fun j f hf => ?_⟩
    rw [List.getElem?_drop] at hf
    have := hc (k + j) f hf
    rw [show o + (k + j) * 3 = o + k * 3 + j * 3 from by omega] at this
    exact this⟩

set_option linter.unusedSimpArgs false in
set_option maxRecDepth 100000 in
set_option maxHeartbeats 6400000 in
theorem seglogFull_walk {room nb : Int} (hroom : 0 ≤ room ∧ room ≤ 65535) (hnb : 0 ≤ nb ∧ nb ≤ 255) {a : Option Addr} {len cap : Nat} {l : List OgV} {w : World} (hL : Laid w) (ho : OgsIn w w.heap.size a len cap l) :
    Calls Tryz.prog 8 #[.int .u16 room, .int .u8 nb, .slice a len cap] w fun e w' => e = .returned (.bool true) ∧ Below w.heap.size w w' := by
  obtain ⟨r, rfl⟩ := Int.eq_ofNat_of_zero_le hroom.1
  obtain ⟨m, rfl⟩ := Int.eq_ofNat_of_zero_le hnb.1
  have hmx := ho.max
  have hle := ho.le
  unfold maxLen at hmx
  have HO := Lib.hid ho
  have v1 : IntKind.i64.wrap (r : Int) = (r : Int) := by rw [IntKind.wrap_i64]; omega
  have v2 : IntKind.i64.wrap (m : Int) = (m : Int) := by rw [IntKind.wrap_i64]; omega
  have v3 : IntKind.i64.wrap (64 + (m : Int)) = ((64 + m : Nat) : Int) := by rw [IntKind.wrap_i64]; omega
  clear ho
  go_enter Tryz.func8, Tryz.ntmps8
  go_wp2_with fail
  refine (head6_any _ hL).mono ?_
  rintro e w1 ⟨rfl, b1⟩
  have B1 := Lib.hid b1
  have L1 := Lib.hid (hL.on b1)
  clear b1 hL
  have N1 := Lib.hid (DK.new r (by omega) w1)
  go_wp2_with fail
  refine N1.out.mono ?_
  rintro e w2 ⟨dp, O, rfl, hk, hb2, _⟩
  have K := Lib.hid hk
  have B2 := Lib.hid (B1.out.trans (hb2.mono B1.out.size))
  clear hk hb2 N1
  have GR := Lib.hid (great6_any a len cap l w2 ((HO.out.below B2.out (Nat.le_refl _)) |> fun h => ⟨h.length, h.le, h.max, fun hp => by obtain ⟨b, o, e, hlt, hc⟩ := h.at_ hp; exact ⟨b, o, e, Nat.lt_of_lt_of_le hlt B2.out.size, fun k op hop => ⟨(hc k op hop).1, (hc k op hop).2.below (Below.refl w2.heap.size w2) B2.out.size⟩⟩⟩))
  go_wp2_with fail
  refine GR.out.mono ?_
  rintro e w3 ⟨g0, rfl, hg, hb3⟩
  have K3 := Lib.hid (K.out.on hb3)
  have B3 := Lib.hid (B2.out.trans (hb3.mono B2.out.size))
  have HG := Lib.hid hg
  clear hb3 hg GR K B2
  cases g0
  rotate_left
  · clear HG
    go_wp2
    go_ret
    exact ⟨rfl, B3.out⟩
  have h120 := HG.out rfl
  clear HG
  have OP := Lib.hid (lgopen_any K3.out L1.out (size := 64 + m) (by omega) (by omega))
  go_wp2_with fail
  refine OP.out.mono ?_
  rintro e w4 hO
  rcases open_new r (size := ((64 + m : Nat) : Int)) (by omega) (by omega) with ⟨hn, h5⟩ | ⟨t', hop, hdur⟩
  · obtain ⟨rfl, hmv⟩ := hO.none_ hn
    rw [h5]
    obtain ⟨O4, k4, _, _⟩ := hmv.far
    have B4 := Lib.hid (B1.out.trans (k4.below.mono B1.out.size))
    clear hO hn h5 hmv k4 OP
    go_wp2
    go_ret
    exact ⟨rfl, B4.out⟩
  rw [hop] at hO
  obtain ⟨lp, D, sa, sc, rfl, hk, _, hge, _⟩ := hO.some_
  have R0 : Hid (FullR w1 dp lp (64 + m) len (.int .i64 (0 : Int)) w4) := Lib.hid ⟨0, _, _, D, sa, sc, [], 0, Nat.zero_le _, rfl, hk, hdur⟩
  clear hO hop hdur hk hge OP K3 B3
  go_wp2_with fail
  go_loopw [12] (fun i wr => FullR w1 dp lp (64 + m) len i wr) (fun i _ => len - (intOf i).toNat)
  case atStart => exact R0.out
  case round =>
    obtain ⟨k, g, t, D, sa, sc, fs, S, hk, rfl, hkd, hdur⟩ := hrel
    have HB := B1.out.trans (hkd.dk.below.mono B1.out.size)
    by_cases hlt : k < len
    · obtain ⟨b, o, op, rfl, hop, ⟨e0, e1, e2, e3, e4⟩, hin⟩ := HO.out.at_later HB hlt
      obtain ⟨wa, hwa⟩ : ∃ wa, wa = wr.alloc (.cells #[.int .i64 op.what, .int .i64 op.kind, .slice op.ba op.bs.length op.bc, .int .i64 op.n, .slice op.ka op.ks.length op.kc] 41) := ⟨_, rfl⟩
      have hba : Below wr.heap.size wr wa := by rw [hwa]; exact (Below.refl _ _).alloc (Nat.le_refl _) _
      have hbv : wa.heap[wr.heap.size]? = some (.cells #[.int .i64 op.what, .int .i64 op.kind, .slice op.ba op.bs.length op.bc, .int .i64 op.n, .slice op.ka op.ks.length op.kc] 41 (0, 0)) := by rw [hwa]; exact heap_alloc_new _ _
      have hz : wa.heap.size = wr.heap.size + 1 := by rw [hwa]; simp
      have hlt' : (k : Int) < (len : Int) := by omega
      have hk0 : (0 : Int) ≤ (k : Int) := by omega
      have HW := Lib.hid hwa
      have HLT0 : Hid (∀ q, lO D lp sa q → q < wr.heap.size) := hkd.lt
      have K := Lib.hid (hkd.on hba)
      have DU := Lib.hid hdur
      have V := Lib.hid (And.intro hbv (And.intro hba (And.intro hz HB)))
      have HK := Lib.hid (And.intro hlt (And.intro hin hop))
      have y0 : wa.cell? ⟨wr.heap.size, 0, none⟩ = some (.int .i64 op.what) := (cell_of_row _ _ 0 _ _ _ hbv).trans rfl
      clear hkd hdur hbv hba hz HB hwa hop hin hlt
      by_cases h9 : op.what = 9
      · rw [h9] at e0 y0
        have e9 : (Value.int .i64 op.what) = .int .i64 9 := by rw [h9]
        rw [e9] at HW
        go_wp2_with fail
        rw [← HW.out]
        go_wp2
        go_roundw
        case rel => exact ⟨k + 1, g, t, D, sa, sc, fs, S, HK.out.1, by go_num, K.out, DU.out⟩
        case measure => have := HK.out.1; simp [intOf]; omega
      have h9' : (op.what == 9) = false := by simpa using h9
      have HLT : Hid (∀ q, lO D lp sa q → q < wr.heap.size) := fun q hq => HLT0.out q hq
      have CF := Lib.hid (frames_got K.out L1.out (by have := DU.out.few.2; omega) DU.out.inv.frames)
      go_wp2_with fail
      rw [← HW.out]
      refine CF.out.mono ?_
      rintro e w5 ⟨af, cf, rfl, hF, hb⟩
      have hza := V.out.2.2.1
      have NX := Lib.hid (lgnext_any (K.out.on hb))
      have DO := Lib.hid (do6_any (K.out.on hb) DU.out.few.1 L1.out (by have := DU.out.few.2; omega) (by omega) op (HK.out.2.1.below (((V.out.2.1.trans (hb.mono V.out.2.1.size))).mono V.out.2.2.2.size) (Nat.le_refl _)) B1.out.size h9)
      have hv5 := (hb.block _ (by omega)).trans V.out.1
      have y0 : w5.cell? ⟨wr.heap.size, 0, none⟩ = some (.int .i64 op.what) := (cell_of_row _ _ 0 _ _ _ hv5).trans rfl
      have y1 : w5.cell? ⟨wr.heap.size, 1, none⟩ = some (.int .i64 op.kind) := (cell_of_row _ _ 1 _ _ _ hv5).trans rfl
      have y2 : w5.cell? ⟨wr.heap.size, 2, none⟩ = some (.slice op.ba op.bs.length op.bc) := (cell_of_row _ _ 2 _ _ _ hv5).trans rfl
      have y3 : w5.cell? ⟨wr.heap.size, 3, none⟩ = some (.int .i64 op.n) := (cell_of_row _ _ 3 _ _ _ hv5).trans rfl
      have y4 : w5.cell? ⟨wr.heap.size, 4, none⟩ = some (.slice op.ka op.ks.length op.kc) := (cell_of_row _ _ 4 _ _ _ hv5).trans rfl
      have F5 := Lib.hid (And.intro hF (And.intro hb hv5))
      clear hF hb hv5 CF hza
      unfold ogVal Did at DO
      go_wp2_with fail
      refine NX.out.mono ?_
      rintro e w9 ⟨rfl, rfl⟩
      clear NX
      go_wp2_with fail
      refine DO.out.mono ?_
      rintro e w6 ⟨rfl, hmv⟩
      obtain ⟨D6, sa6, sc6, hk6, b6, f6⟩ := hmv.far
      obtain ⟨fs', S', hd', F1, F2⟩ := DU.out.do_ (64 + m) op
      generalize lgDo (64 + m) g t op = rr at *
      have hv6 := (b6.block wr.heap.size (by have := F5.out.2.1.size; have := V.out.2.2.1; omega) (fun hq => by have := HLT.out _ hq; omega)).trans F5.out.2.2
      have hF6 := F5.out.1.but b6 (fun q h1 h2 hq => by have := HLT.out _ hq; have := V.out.2.2.1; omega)
      have CF := Lib.hid (frames_got hk6 L1.out (by have := hd'.few.2; omega) hd'.inv.frames)
      have H6 := Lib.hid (And.intro hv6 (And.intro hF6 (And.intro hk6 (And.intro b6 f6))))
      have HD := Lib.hid (And.intro hd' (And.intro F1 F2))
      clear hmv hk6 b6 f6 hd' F1 F2 hv6 hF6 DO y0 y1 y2 y3 y4 e0 e1 e2 e3 e4
      go_wp2_with fail
      refine CF.out.mono ?_
      rintro e w7 ⟨an, cn, rfl, hN, hb⟩
      have hv7 := (hb.block _ (lt_of_heap H6.out.1)).trans H6.out.1
      have z0 : w7.cell? ⟨wr.heap.size, 0, none⟩ = some (.int .i64 op.what) := (cell_of_row _ _ 0 _ _ _ hv7).trans rfl
      have z1 : w7.cell? ⟨wr.heap.size, 1, none⟩ = some (.int .i64 op.kind) := (cell_of_row _ _ 1 _ _ _ hv7).trans rfl
      have z2 : w7.cell? ⟨wr.heap.size, 2, none⟩ = some (.slice op.ba op.bs.length op.bc) := (cell_of_row _ _ 2 _ _ _ hv7).trans rfl
      have K7 := Lib.hid (H6.out.2.2.1.on hb)
      have F7 := Lib.hid (And.intro hN (H6.out.2.1.on hb))
      have HB7 := Lib.hid (V.out.2.1.trans ((F5.out.2.1).mono V.out.2.1.size))
      have HS7 := Lib.hid hb
      clear hN hb hv7 CF
      have NX := Lib.hid (lgnext_any K7.out)
      have SM := Lib.hid (same_any an fs'.length cn fs' af fs.length cf fs w7 F7.out.1.frs F7.out.2.frs)
      have SZ : Hid (fs.length ≤ 9223372036854775807 ∧ fs'.length ≤ 9223372036854775807) := by
        have h1 := F7.out.1.le
        have h2 := F7.out.1.max
        have h3 := F7.out.2.le
        have h4 := F7.out.2.max
        unfold maxLen at h2 h4
        exact ⟨by omega, by omega⟩
      by_cases hf0 : rr.1.2 = 0
      · have bf0 : (rr.1.2 != 0) = false := by simpa using hf0
        have bf1 : (rr.1.2 == 0) = true := by simpa using hf0
        have Q := Lib.hid (fun h => HD.out.2.2 h hf0)
        clear hf0
        by_cases c1 : op.what < 4
        · have d1 : decide (op.what < 4) = true := decide_eq_true c1
          have b6 : (op.what != 6) = true := by simp; omega
          have hh : op.what < 4 ∨ 9 < op.what := .inl c1
          obtain ⟨p1, p2, p3, p4, p5⟩ := Q.out hh
          obtain ⟨N, hN⟩ : ∃ N, N = fs.length := ⟨_, rfl⟩
          subst p3
          have hfl : (fs ++ [(⟨op.kind, g.next, op.bs⟩ : Fr)]).length = N + 1 := by rw [hN]; simp
          rw [p2] at NX
          rw [hfl, ← hN] at SM SZ ⊢
          have hsz := SZ.out
          have F8 := Lib.hid F7.out
          rw [hfl, ← hN] at F8
          have bs1 : (rr.1.1 != g.next) = false := by simp [p1]
          have wn : IntKind.i64.wrap (g.next + 1) = g.next + 1 := by rw [IntKind.wrap_i64]; omega
          have wl : IntKind.i64.wrap ((N : Int) + 1) = ((N + 1 : Nat) : Int) := by rw [IntKind.wrap_i64]; omega
          have kcut : ∀ x, (Instr.slice 46 (.slice an (N + 1) cn) (some (.int .i64 (N : Int))) none none).run Tryz.prog x = .ok (.slice (cutA3 an cn N) (N + 1 - N) (cn - N)) x := run_cut3f (P := Tryz.prog) 46 62 Tryz.underlying46 info_frame an (N + 1) cn N (by omega)
          rw [show N + 1 - N = 1 from by omega] at kcut
          have hop := HK.out.2.2
          obtain ⟨b2, o2, op2, he2, hop2, hcc2, hin2⟩ := HO.out.at_later (B1.out.trans (K7.out.dk.below.mono B1.out.size)) (k := k) HK.out.1
          rw [hop] at hop2
          injection hop2 with hop2
          subst hop2
          have SB := Lib.hid (hin2.sl.more (Nat.le_trans B1.out.size K7.out.dk.below.size))
          have SAME : Hid (∀ x g8, Below w7.heap.size w7 x → x.heap[g8]? = some (.cells #[.int .i64 op.kind, .int .i64 g.next, .slice op.ba op.bs.length op.bc] 62 (0, 0)) → Calls Tryz.prog 18 #[.slice (cutA3 an cn N) 1 (cn - N), .slice (some ⟨g8, 0, none⟩) 1 1] x fun e w' => e = .returned (.bool true) ∧ Below x.heap.size x w') := fun x g8 hx h8 => by
            have f1 := (F8.out.1.on hx).frs.from_ (k := N) (by omega)
            rw [show N + 1 - N = 1 from by omega, hN, List.drop_left] at f1
            rw [← hN] at f1
            have f2 := Frs.one (f := ⟨op.kind, g.next, op.bs⟩) h8 rfl rfl rfl SB.out hx
            have := same_any _ _ _ _ _ _ _ _ x f1 f2
            rwa [decide_eq_true rfl] at this
          have NXW : Hid (∀ x, Below w7.heap.size w7 x → Calls Tryz.prog 21 #[.pointer (some ⟨lp, 0, none⟩)] x fun e w' => e = .returned (.int .i64 (g.next + 1)) ∧ x = w') := fun x hx => (lgnext_any (K7.out.on hx)).mono fun e w' hh => ⟨by rw [hh.1, p2], hh.2.symm⟩
          clear SM hin2 hop Q p1 hN hsz he2 hcc2
          go_wp2_with fail
          refine wp_region_held_drew (S := fun x => Below w7.heap.size w7 x ∧ x.cell? ⟨wr.heap.size, 1, none⟩ = some (.int .i64 op.kind) ∧ x.cell? ⟨wr.heap.size, 2, none⟩ = some (.slice op.ba op.bs.length op.bc)) (by kernel_rfl) ⟨Below.drew (Below.refl _ _), z1, z2⟩ (fun hHeld => ?_)
          refine wpAnyH_take (i := 0) (v := ?_) rfl (by kernel_rfl) (by kernel_rfl) (by kernel_rfl) (fun _ _ _ h => h) (Or.inl ⟨by rfl, ?_⟩) (by assumption) ?_
          rotate_left
          · intro w hSw
            (try dsimp only at hSw)
            go_simp
            all_goals with_reducible rfl
          try simp only [Act.put, List.getElem_toArray, List.getElem_cons_succ, List.getElem_cons_zero, List.setIfInBounds_toArray, List.set_cons_zero, List.set_cons_succ]
          refine wpAnyH_take (i := 1) (v := ?_) rfl (by kernel_rfl) (by kernel_rfl) (by kernel_rfl) (fun _ _ _ h => h) (Or.inl ⟨by rfl, ?_⟩) (by assumption) ?_
          rotate_left
          · intro w hSw
            (try dsimp only at hSw)
            go_simp
            all_goals with_reducible rfl
          try simp only [Act.put, List.getElem_toArray, List.getElem_cons_succ, List.getElem_cons_zero, List.setIfInBounds_toArray, List.set_cons_zero, List.set_cons_succ]
          refine wpAnyH_take (i := 2) (v := ?_) rfl (by kernel_rfl) (by kernel_rfl) (by kernel_rfl) (fun _ _ _ h => h) (Or.inl ⟨by rfl, ?_⟩) (by assumption) ?_
          rotate_left
          · intro w hSw
            (try dsimp only at hSw)
            go_simp
            all_goals with_reducible rfl
          try simp only [Act.put, List.getElem_toArray, List.getElem_cons_succ, List.getElem_cons_zero, List.setIfInBounds_toArray, List.set_cons_zero, List.set_cons_succ]
          refine wpAnyH_take (i := 3) (v := ?_) rfl (by kernel_rfl) (by kernel_rfl) (by kernel_rfl) (fun _ _ _ h => h) (Or.inl ⟨by rfl, ?_⟩) (by assumption) ?_
          rotate_left
          · intro w hSw
            (try dsimp only at hSw)
            go_simp
            all_goals with_reducible rfl
          try simp only [Act.put, List.getElem_toArray, List.getElem_cons_succ, List.getElem_cons_zero, List.setIfInBounds_toArray, List.set_cons_zero, List.set_cons_succ]
          refine wpAnyH_take (i := 4) (v := ?_) rfl (by kernel_rfl) (by kernel_rfl) (by kernel_rfl) (fun _ _ _ h => h) (Or.inl ⟨by rfl, ?_⟩) (by assumption) ?_
          rotate_left
          · intro w hSw
            (try dsimp only at hSw)
            go_simp
            all_goals with_reducible rfl
          try simp only [Act.put, List.getElem_toArray, List.getElem_cons_succ, List.getElem_cons_zero, List.setIfInBounds_toArray, List.set_cons_zero, List.set_cons_succ]
          refine wpAnyH_take (i := 5) (v := ?_) rfl (by kernel_rfl) (by kernel_rfl) (by kernel_rfl) (fun _ _ _ h => h) (Or.inl ⟨by rfl, ?_⟩) (by assumption) ?_
          rotate_left
          · intro w hSw
            (try dsimp only at hSw)
            go_simp
            all_goals with_reducible rfl
          try simp only [Act.put, List.getElem_toArray, List.getElem_cons_succ, List.getElem_cons_zero, List.setIfInBounds_toArray, List.set_cons_zero, List.set_cons_succ]
          refine wpAnyH_take (i := 6) (v := ?_) rfl (by kernel_rfl) (by kernel_rfl) (by kernel_rfl) (fun _ _ _ h => h) (Or.inl ⟨by rfl, ?_⟩) (by assumption) ?_
          rotate_left
          · intro w hSw
            (try dsimp only at hSw)
            go_simp
            all_goals with_reducible rfl
          try simp only [Act.put, List.getElem_toArray, List.getElem_cons_succ, List.getElem_cons_zero, List.setIfInBounds_toArray, List.set_cons_zero, List.set_cons_succ]
          refine wpAnyH_take (i := 7) (v := ?_) rfl (by kernel_rfl) (by kernel_rfl) (by kernel_rfl) (fun _ _ _ h => h) (Or.inl ⟨by rfl, ?_⟩) (by assumption) ?_
          rotate_left
          · intro w hSw
            (try dsimp only at hSw)
            go_simp
            all_goals with_reducible rfl
          try simp only [Act.put, List.getElem_toArray, List.getElem_cons_succ, List.getElem_cons_zero, List.setIfInBounds_toArray, List.set_cons_zero, List.set_cons_succ]
          refine wpAnyH_take (i := 8) (v := ?_) rfl (by kernel_rfl) (by kernel_rfl) (by kernel_rfl) (fun _ _ _ h => h) (Or.inl ⟨by rfl, ?_⟩) (by assumption) ?_
          rotate_left
          · intro w hSw
            (try dsimp only at hSw)
            go_simp
            all_goals with_reducible rfl
          try simp only [Act.put, List.getElem_toArray, List.getElem_cons_succ, List.getElem_cons_zero, List.setIfInBounds_toArray, List.set_cons_zero, List.set_cons_succ]
          refine wpAnyH_take (i := 9) (v := ?_) rfl (by kernel_rfl) (by kernel_rfl) (by kernel_rfl) (fun _ _ _ h => h) (Or.inl ⟨by rfl, ?_⟩) (by assumption) ?_
          rotate_left
          · intro w hSw
            (try dsimp only at hSw)
            go_simp
            all_goals with_reducible rfl
          try simp only [Act.put, List.getElem_toArray, List.getElem_cons_succ, List.getElem_cons_zero, List.setIfInBounds_toArray, List.set_cons_zero, List.set_cons_succ]
          refine wpAnyH_take (i := 10) (v := ?_) rfl (by kernel_rfl) (by kernel_rfl) (by kernel_rfl) (fun _ _ _ h => h) (Or.inl ⟨by rfl, ?_⟩) (by assumption) ?_
          rotate_left
          · intro w hSw
            (try dsimp only at hSw)
            go_simp
            all_goals with_reducible rfl
          try simp only [Act.put, List.getElem_toArray, List.getElem_cons_succ, List.getElem_cons_zero, List.setIfInBounds_toArray, List.set_cons_zero, List.set_cons_succ]
          refine take_first (i := 11) rfl (by kernel_rfl) (by kernel_rfl) (by kernel_rfl) (fun _ _ _ h => h) (GivesIf.call (by rfl) (fun w => ?_) (fun w hS => NXW.out _ hS.1)) (by assumption) ?_
          · go_simp
            all_goals with_reducible rfl
          try simp only [Act.put, List.getElem_toArray, List.getElem_cons_succ, List.getElem_cons_zero, List.setIfInBounds_toArray, List.set_cons_zero, List.set_cons_succ]
          refine wpAnyH_take (i := 12) (v := ?_) rfl (by kernel_rfl) (by kernel_rfl) (by kernel_rfl) (fun _ _ _ h => h) (Or.inl ⟨by rfl, ?_⟩) (by assumption) ?_
          rotate_left
          · intro w hSw
            (try dsimp only at hSw)
            go_simp
            all_goals with_reducible rfl
          try simp only [Act.put, List.getElem_toArray, List.getElem_cons_succ, List.getElem_cons_zero, List.setIfInBounds_toArray, List.set_cons_zero, List.set_cons_succ]
          refine wpAnyH_take (i := 13) (v := ?_) rfl (by kernel_rfl) (by kernel_rfl) (by kernel_rfl) (fun _ _ _ h => h) (Or.inl ⟨by rfl, ?_⟩) (by assumption) ?_
          rotate_left
          · intro w hSw
            (try dsimp only at hSw)
            go_simp
            all_goals with_reducible rfl
          try simp only [Act.put, List.getElem_toArray, List.getElem_cons_succ, List.getElem_cons_zero, List.setIfInBounds_toArray, List.set_cons_zero, List.set_cons_succ]
          refine wpAnyH_take (i := 14) (v := ?_) rfl (by kernel_rfl) (by kernel_rfl) (by kernel_rfl) (fun _ _ _ h => h) (Or.inl ⟨by rfl, ?_⟩) (by assumption) ?_
          rotate_left
          · intro w hSw
            (try dsimp only at hSw)
            go_simp
            all_goals with_reducible rfl
          try simp only [Act.put, List.getElem_toArray, List.getElem_cons_succ, List.getElem_cons_zero, List.setIfInBounds_toArray, List.set_cons_zero, List.set_cons_succ]
          refine wpAnyH_take (i := 15) (v := ?_) rfl (by kernel_rfl) (by kernel_rfl) (by kernel_rfl) (fun _ _ _ h => h) (Or.inl ⟨by rfl, ?_⟩) (by assumption) ?_
          rotate_left
          · intro w hSw
            (try dsimp only at hSw)
            go_simp
            all_goals with_reducible rfl
          try simp only [Act.put, List.getElem_toArray, List.getElem_cons_succ, List.getElem_cons_zero, List.setIfInBounds_toArray, List.set_cons_zero, List.set_cons_succ]
          refine wpAnyH_take (i := 16) (v := ?_) rfl (by kernel_rfl) (by kernel_rfl) (by kernel_rfl) (fun _ _ _ h => h) (Or.inl ⟨by rfl, ?_⟩) (by assumption) ?_
          rotate_left
          · intro w hSw
            (try dsimp only at hSw)
            go_simp
            all_goals with_reducible rfl
          try simp only [Act.put, List.getElem_toArray, List.getElem_cons_succ, List.getElem_cons_zero, List.setIfInBounds_toArray, List.set_cons_zero, List.set_cons_succ]
          refine wpAnyH_take (i := 17) (v := ?_) rfl (by kernel_rfl) (by kernel_rfl) (by kernel_rfl) (fun _ _ _ h => h) (Or.inl ⟨by rfl, ?_⟩) (by assumption) ?_
          rotate_left
          · intro w hSw
            (try dsimp only at hSw)
            go_simp
            all_goals with_reducible rfl
          try simp only [Act.put, List.getElem_toArray, List.getElem_cons_succ, List.getElem_cons_zero, List.setIfInBounds_toArray, List.set_cons_zero, List.set_cons_succ]
          refine wpAnyH_take (i := 18) (v := ?_) rfl (by kernel_rfl) (by kernel_rfl) (by kernel_rfl) (fun _ _ _ h => h) (Or.inl ⟨by rfl, ?_⟩) (by assumption) ?_
          rotate_left
          · intro w hSw
            (try dsimp only at hSw)
            go_simp
            all_goals with_reducible rfl
          try simp only [Act.put, List.getElem_toArray, List.getElem_cons_succ, List.getElem_cons_zero, List.setIfInBounds_toArray, List.set_cons_zero, List.set_cons_succ]
          refine wpAnyH_take (i := 19) (v := ?_) rfl (by kernel_rfl) (by kernel_rfl) (by kernel_rfl) (fun _ _ _ h => h) (Or.inl ⟨by rfl, ?_⟩) (by assumption) ?_
          rotate_left
          · intro w hSw
            (try dsimp only at hSw)
            go_simp
            all_goals with_reducible rfl
          try simp only [Act.put, List.getElem_toArray, List.getElem_cons_succ, List.getElem_cons_zero, List.setIfInBounds_toArray, List.set_cons_zero, List.set_cons_succ]
          refine wpAnyH_take (i := 20) (v := ?_) rfl (by kernel_rfl) (by kernel_rfl) (by kernel_rfl) (fun _ _ _ h => h) (Or.inl ⟨by rfl, ?_⟩) (by assumption) ?_
          rotate_left
          · intro w hSw
            (try dsimp only at hSw)
            go_simp
            all_goals with_reducible rfl
          try simp only [Act.put, List.getElem_toArray, List.getElem_cons_succ, List.getElem_cons_zero, List.setIfInBounds_toArray, List.set_cons_zero, List.set_cons_succ]
          refine wpAnyH_take (i := 21) (v := ?_) rfl (by kernel_rfl) (by kernel_rfl) (by kernel_rfl) (fun _ _ _ h => h) (Or.inl ⟨by rfl, ?_⟩) (by assumption) ?_
          rotate_left
          · intro w hSw
            (try dsimp only at hSw)
            go_simp
            all_goals with_reducible rfl
          try simp only [Act.put, List.getElem_toArray, List.getElem_cons_succ, List.getElem_cons_zero, List.setIfInBounds_toArray, List.set_cons_zero, List.set_cons_succ]
          refine wpAnyH_take (i := 22) (v := ?_) rfl (by kernel_rfl) (by kernel_rfl) (by kernel_rfl) (fun _ _ _ h => h) (Or.inl ⟨by rfl, ?_⟩) (by assumption) ?_
          rotate_left
          · intro w hSw
            (try dsimp only at hSw)
            go_simp
            all_goals with_reducible rfl
          try simp only [Act.put, List.getElem_toArray, List.getElem_cons_succ, List.getElem_cons_zero, List.setIfInBounds_toArray, List.set_cons_zero, List.set_cons_succ]
          refine wpAnyH_take (i := 23) (v := ?_) rfl (by kernel_rfl) (by kernel_rfl) (by kernel_rfl) (fun _ _ _ h => h) (Or.inl ⟨by rfl, ?_⟩) (by assumption) ?_
          rotate_left
          · intro w hSw
            (try dsimp only at hSw)
            go_simp
            all_goals with_reducible rfl
          try simp only [Act.put, List.getElem_toArray, List.getElem_cons_succ, List.getElem_cons_zero, List.setIfInBounds_toArray, List.set_cons_zero, List.set_cons_succ]
          refine wpAnyH_take (i := 24) (v := ?_) rfl (by kernel_rfl) (by kernel_rfl) (by kernel_rfl) (fun _ _ _ h => h) (Or.inl ⟨by rfl, ?_⟩) (by assumption) ?_
          rotate_left
          · intro w hSw
            (try dsimp only at hSw)
            go_simp
            all_goals with_reducible rfl
          try simp only [Act.put, List.getElem_toArray, List.getElem_cons_succ, List.getElem_cons_zero, List.setIfInBounds_toArray, List.set_cons_zero, List.set_cons_succ]
          refine wpAnyH_take (i := 25) (v := ?_) rfl (by kernel_rfl) (by kernel_rfl) (by kernel_rfl) (fun _ _ _ h => h) (Or.inl ⟨by rfl, ?_⟩) (by assumption) ?_
          rotate_left
          · intro w hSw
            (try dsimp only at hSw)
            go_simp
            all_goals with_reducible rfl
          try simp only [Act.put, List.getElem_toArray, List.getElem_cons_succ, List.getElem_cons_zero, List.setIfInBounds_toArray, List.set_cons_zero, List.set_cons_succ]
          refine wpAnyH_take (i := 26) (v := ?_) rfl (by kernel_rfl) (by kernel_rfl) (by kernel_rfl) (fun _ _ _ h => h) (Or.inl ⟨by rfl, ?_⟩) (by assumption) ?_
          rotate_left
          · intro w hSw
            (try dsimp only at hSw)
            go_simp
            all_goals with_reducible rfl
          try simp only [Act.put, List.getElem_toArray, List.getElem_cons_succ, List.getElem_cons_zero, List.setIfInBounds_toArray, List.set_cons_zero, List.set_cons_succ]
          refine wpAnyH_take (i := 27) (v := ?_) rfl (by kernel_rfl) (by kernel_rfl) (by kernel_rfl) (fun _ _ _ h => h) (Or.inl ⟨by rfl, ?_⟩) (by assumption) ?_
          rotate_left
          · intro w hSw
            (try dsimp only at hSw)
            go_simp
            all_goals with_reducible rfl
          try simp only [Act.put, List.getElem_toArray, List.getElem_cons_succ, List.getElem_cons_zero, List.setIfInBounds_toArray, List.set_cons_zero, List.set_cons_succ]
          refine wpAnyH_take (i := 28) (v := ?_) rfl (by kernel_rfl) (by kernel_rfl) (by kernel_rfl) (fun _ _ _ h => h) (Or.inl ⟨by rfl, ?_⟩) (by assumption) ?_
          rotate_left
          · intro w hSw
            (try dsimp only at hSw)
            go_simp
            all_goals with_reducible rfl
          try simp only [Act.put, List.getElem_toArray, List.getElem_cons_succ, List.getElem_cons_zero, List.setIfInBounds_toArray, List.set_cons_zero, List.set_cons_succ]
          refine wpAnyH_take (i := 29) (v := ?_) rfl (by kernel_rfl) (by kernel_rfl) (by kernel_rfl) (fun _ _ _ h => h) (Or.inl ⟨by rfl, ?_⟩) (by assumption) ?_
          rotate_left
          · intro w hSw
            (try dsimp only at hSw)
            go_simp
            all_goals with_reducible rfl
          try simp only [Act.put, List.getElem_toArray, List.getElem_cons_succ, List.getElem_cons_zero, List.setIfInBounds_toArray, List.set_cons_zero, List.set_cons_succ]
          refine wpAnyH_take (i := 30) (v := ?_) rfl (by kernel_rfl) (by kernel_rfl) (by kernel_rfl) (fun _ _ _ h => h) (Or.inl ⟨by rfl, ?_⟩) (by assumption) ?_
          rotate_left
          · intro w hSw
            (try dsimp only at hSw)
            go_simp
            all_goals with_reducible rfl
          try simp only [Act.put, List.getElem_toArray, List.getElem_cons_succ, List.getElem_cons_zero, List.setIfInBounds_toArray, List.set_cons_zero, List.set_cons_succ]
          refine wpAnyH_take (i := 31) (v := ?_) rfl (by kernel_rfl) (by kernel_rfl) (by kernel_rfl) (fun _ _ _ h => h) (Or.inl ⟨by rfl, ?_⟩) (by assumption) ?_
          rotate_left
          · intro w hSw
            (try dsimp only at hSw)
            go_simp
            all_goals with_reducible rfl
          try simp only [Act.put, List.getElem_toArray, List.getElem_cons_succ, List.getElem_cons_zero, List.setIfInBounds_toArray, List.set_cons_zero, List.set_cons_succ]
          refine wpAnyH_take (i := 32) (v := ?_) rfl (by kernel_rfl) (by kernel_rfl) (by kernel_rfl) (fun _ _ _ h => h) (Or.inl ⟨by rfl, ?_⟩) (by assumption) ?_
          rotate_left
          · intro w hSw
            (try dsimp only at hSw)
            go_simp
            all_goals with_reducible rfl
          try simp only [Act.put, List.getElem_toArray, List.getElem_cons_succ, List.getElem_cons_zero, List.setIfInBounds_toArray, List.set_cons_zero, List.set_cons_succ]
          refine wpAnyH_take (i := 33) (v := ?_) rfl (by kernel_rfl) (by kernel_rfl) (by kernel_rfl) (fun _ _ _ h => h) (Or.inl ⟨by rfl, ?_⟩) (by assumption) ?_
          rotate_left
          · intro w hSw
            (try dsimp only at hSw)
            go_simp
            all_goals with_reducible rfl
          try simp only [Act.put, List.getElem_toArray, List.getElem_cons_succ, List.getElem_cons_zero, List.setIfInBounds_toArray, List.set_cons_zero, List.set_cons_succ]
          refine wpAnyH_take (i := 34) (v := ?_) rfl (by kernel_rfl) (by kernel_rfl) (by kernel_rfl) (fun _ _ _ h => h) (Or.inl ⟨by rfl, ?_⟩) (by assumption) ?_
          rotate_left
          · intro w hSw
            (try dsimp only at hSw)
            go_simp
            all_goals with_reducible rfl
          try simp only [Act.put, List.getElem_toArray, List.getElem_cons_succ, List.getElem_cons_zero, List.setIfInBounds_toArray, List.set_cons_zero, List.set_cons_succ]
          refine wpAnyH_ready (rs := [35]) (by kernel_rfl) (by simp) ?_
          refine AllReadyH.cons rfl (fun K hK => ?_) AllReadyH.nil
          rw [if_pos (by rfl)]
          go_simp
          obtain ⟨x8, hx8⟩ : ∃ x, x = (w7.alloc (.cells #[.int .i64 op.kind, .int .i64 g.next, .slice op.ba op.bs.length op.bc] 62)).drew := ⟨_, rfl⟩
          have b8 : Below w7.heap.size w7 x8 := by rw [hx8]; exact Below.drew ((Below.refl _ _).alloc (Nat.le_refl _) _)
          have h8 : x8.heap[w7.heap.size]? = some (.cells #[.int .i64 op.kind, .int .i64 g.next, .slice op.ba op.bs.length op.bc] 62 (0, 0)) := by rw [hx8]; exact heap_alloc_new w7 _
          rw [← hx8]
          clear hx8
          have S8 : Below w7.heap.size w7 x8 ∧ x8.cell? ⟨wr.heap.size, 1, none⟩ = some (.int .i64 op.kind) ∧ x8.cell? ⟨wr.heap.size, 2, none⟩ = some (.slice op.ba op.bs.length op.bc) := ⟨b8, (b8.cell (p := ⟨wr.heap.size, 1, none⟩) (block_lt_of_cell z1)).trans z1, (b8.cell (p := ⟨wr.heap.size, 2, none⟩) (block_lt_of_cell z2)).trans z2⟩
          refine hK.out _ _ ?_ (fun hHeld => ?_)
          · exact S8
          clear hK K
          try simp only [Act.put, List.getElem_toArray, List.getElem_cons_succ, List.getElem_cons_zero, List.setIfInBounds_toArray, List.set_cons_zero, List.set_cons_succ]
          have SC := Lib.hid (SAME.out x8 _ b8 h8)
          refine wpAnyH_ready (rs := [36]) (by kernel_rfl) (by simp) ?_
          refine AllReadyH.cons rfl (fun K hK => ?_) AllReadyH.nil
          rw [if_pos (by rfl)]
          go_simp
          go_at_call 18
          refine SC.out.mono ?_
          rintro e x9 ⟨rfl, b9⟩
          have b9' := b8.trans (b9.mono b8.size)
          refine hK.out _ _ ?_ (fun hHeld => ?_)
          · exact ⟨b9', (b9'.cell (p := ⟨wr.heap.size, 1, none⟩) (block_lt_of_cell z1)).trans z1, (b9'.cell (p := ⟨wr.heap.size, 2, none⟩) (block_lt_of_cell z2)).trans z2⟩
          clear hK K
          try simp only [Act.put, List.getElem_toArray, List.getElem_cons_succ, List.getElem_cons_zero, List.setIfInBounds_toArray, List.set_cons_zero, List.set_cons_succ]
          refine wpAnyH_take (i := 37) (v := ?_) rfl (by kernel_rfl) (by kernel_rfl) (by kernel_rfl) (fun _ _ _ h => h) (Or.inl ⟨by rfl, ?_⟩) (by assumption) ?_
          rotate_left
          · intro w hSw
            (try dsimp only at hSw)
            go_simp
            all_goals with_reducible rfl
          try simp only [Act.put, List.getElem_toArray, List.getElem_cons_succ, List.getElem_cons_zero, List.setIfInBounds_toArray, List.set_cons_zero, List.set_cons_succ]
          refine wpAnyH_take (i := 38) (v := ?_) rfl (by kernel_rfl) (by kernel_rfl) (by kernel_rfl) (fun _ _ _ h => h) (Or.inl ⟨by rfl, ?_⟩) (by assumption) ?_
          rotate_left
          · intro w hSw
            (try dsimp only at hSw)
            go_simp
            all_goals with_reducible rfl
          try simp only [Act.put, List.getElem_toArray, List.getElem_cons_succ, List.getElem_cons_zero, List.setIfInBounds_toArray, List.set_cons_zero, List.set_cons_succ]
          refine wpAnyH_take (i := 39) (v := ?_) rfl (by kernel_rfl) (by kernel_rfl) (by kernel_rfl) (fun _ _ _ h => h) (Or.inl ⟨by rfl, ?_⟩) (by assumption) ?_
          rotate_left
          · intro w hSw
            (try dsimp only at hSw)
            go_simp
            all_goals with_reducible rfl
          try simp only [Act.put, List.getElem_toArray, List.getElem_cons_succ, List.getElem_cons_zero, List.setIfInBounds_toArray, List.set_cons_zero, List.set_cons_succ]
          refine wpAnyH_done (by kernel_rfl) ?_ _
          have K9 := Lib.hid (K7.out.on b9')
          clear hHeld SC b8 h8 S8 b9 b9' z0 z1 z2 NX kcut
          go_wp2
          go_roundw
          case rel => exact ⟨k + 1, rr.2.2, rr.2.1, D6, sa6, sc6, fs ++ [⟨op.kind, g.next, op.bs⟩], S', HK.out.1, by go_num, K9.out, HD.out.1⟩
          case measure => have := HK.out.1; simp [intOf]; omega
        have d1 : decide (op.what < 4) = false := decide_eq_false c1
        by_cases c2 : 9 < op.what
        · have d2 : decide (9 < op.what) = true := decide_eq_true c2
          have b6 : (op.what != 6) = true := by simp; omega
          have hh : op.what < 4 ∨ 9 < op.what := .inr c2
          obtain ⟨p1, p2, p3, p4, p5⟩ := Q.out hh
          obtain ⟨N, hN⟩ : ∃ N, N = fs.length := ⟨_, rfl⟩
          subst p3
          have hfl : (fs ++ [(⟨op.kind, g.next, op.bs⟩ : Fr)]).length = N + 1 := by rw [hN]; simp
          rw [p2] at NX
          rw [hfl, ← hN] at SM SZ ⊢
          have hsz := SZ.out
          have F8 := Lib.hid F7.out
          rw [hfl, ← hN] at F8
          have bs1 : (rr.1.1 != g.next) = false := by simp [p1]
          have wn : IntKind.i64.wrap (g.next + 1) = g.next + 1 := by rw [IntKind.wrap_i64]; omega
          have wl : IntKind.i64.wrap ((N : Int) + 1) = ((N + 1 : Nat) : Int) := by rw [IntKind.wrap_i64]; omega
          have kcut : ∀ x, (Instr.slice 46 (.slice an (N + 1) cn) (some (.int .i64 (N : Int))) none none).run Tryz.prog x = .ok (.slice (cutA3 an cn N) (N + 1 - N) (cn - N)) x := run_cut3f (P := Tryz.prog) 46 62 Tryz.underlying46 info_frame an (N + 1) cn N (by omega)
          rw [show N + 1 - N = 1 from by omega] at kcut
          have hop := HK.out.2.2
          obtain ⟨b2, o2, op2, he2, hop2, hcc2, hin2⟩ := HO.out.at_later (B1.out.trans (K7.out.dk.below.mono B1.out.size)) (k := k) HK.out.1
          rw [hop] at hop2
          injection hop2 with hop2
          subst hop2
          have SB := Lib.hid (hin2.sl.more (Nat.le_trans B1.out.size K7.out.dk.below.size))
          have SAME : Hid (∀ x g8, Below w7.heap.size w7 x → x.heap[g8]? = some (.cells #[.int .i64 op.kind, .int .i64 g.next, .slice op.ba op.bs.length op.bc] 62 (0, 0)) → Calls Tryz.prog 18 #[.slice (cutA3 an cn N) 1 (cn - N), .slice (some ⟨g8, 0, none⟩) 1 1] x fun e w' => e = .returned (.bool true) ∧ Below x.heap.size x w') := fun x g8 hx h8 => by
            have f1 := (F8.out.1.on hx).frs.from_ (k := N) (by omega)
            rw [show N + 1 - N = 1 from by omega, hN, List.drop_left] at f1
            rw [← hN] at f1
            have f2 := Frs.one (f := ⟨op.kind, g.next, op.bs⟩) h8 rfl rfl rfl SB.out hx
            have := same_any _ _ _ _ _ _ _ _ x f1 f2
            rwa [decide_eq_true rfl] at this
          have NXW : Hid (∀ x, Below w7.heap.size w7 x → Calls Tryz.prog 21 #[.pointer (some ⟨lp, 0, none⟩)] x fun e w' => e = .returned (.int .i64 (g.next + 1)) ∧ x = w') := fun x hx => (lgnext_any (K7.out.on hx)).mono fun e w' hh => ⟨by rw [hh.1, p2], hh.2.symm⟩
          clear SM hin2 hop Q p1 hN hsz he2 hcc2
          go_wp2_with fail
          refine wp_region_held_drew (S := fun x => Below w7.heap.size w7 x ∧ x.cell? ⟨wr.heap.size, 1, none⟩ = some (.int .i64 op.kind) ∧ x.cell? ⟨wr.heap.size, 2, none⟩ = some (.slice op.ba op.bs.length op.bc)) (by kernel_rfl) ⟨Below.drew (Below.refl _ _), z1, z2⟩ (fun hHeld => ?_)
          refine wpAnyH_take (i := 0) (v := ?_) rfl (by kernel_rfl) (by kernel_rfl) (by kernel_rfl) (fun _ _ _ h => h) (Or.inl ⟨by rfl, ?_⟩) (by assumption) ?_
          rotate_left
          · intro w hSw
            (try dsimp only at hSw)
            go_simp
            all_goals with_reducible rfl
          try simp only [Act.put, List.getElem_toArray, List.getElem_cons_succ, List.getElem_cons_zero, List.setIfInBounds_toArray, List.set_cons_zero, List.set_cons_succ]
          refine wpAnyH_take (i := 1) (v := ?_) rfl (by kernel_rfl) (by kernel_rfl) (by kernel_rfl) (fun _ _ _ h => h) (Or.inl ⟨by rfl, ?_⟩) (by assumption) ?_
          rotate_left
          · intro w hSw
            (try dsimp only at hSw)
            go_simp
            all_goals with_reducible rfl
          try simp only [Act.put, List.getElem_toArray, List.getElem_cons_succ, List.getElem_cons_zero, List.setIfInBounds_toArray, List.set_cons_zero, List.set_cons_succ]
          refine wpAnyH_take (i := 2) (v := ?_) rfl (by kernel_rfl) (by kernel_rfl) (by kernel_rfl) (fun _ _ _ h => h) (Or.inl ⟨by rfl, ?_⟩) (by assumption) ?_
          rotate_left
          · intro w hSw
            (try dsimp only at hSw)
            go_simp
            all_goals with_reducible rfl
          try simp only [Act.put, List.getElem_toArray, List.getElem_cons_succ, List.getElem_cons_zero, List.setIfInBounds_toArray, List.set_cons_zero, List.set_cons_succ]
          refine wpAnyH_take (i := 3) (v := ?_) rfl (by kernel_rfl) (by kernel_rfl) (by kernel_rfl) (fun _ _ _ h => h) (Or.inl ⟨by rfl, ?_⟩) (by assumption) ?_
          rotate_left
          · intro w hSw
            (try dsimp only at hSw)
            go_simp
            all_goals with_reducible rfl
          try simp only [Act.put, List.getElem_toArray, List.getElem_cons_succ, List.getElem_cons_zero, List.setIfInBounds_toArray, List.set_cons_zero, List.set_cons_succ]
          refine wpAnyH_take (i := 4) (v := ?_) rfl (by kernel_rfl) (by kernel_rfl) (by kernel_rfl) (fun _ _ _ h => h) (Or.inl ⟨by rfl, ?_⟩) (by assumption) ?_
          rotate_left
          · intro w hSw
            (try dsimp only at hSw)
            go_simp
            all_goals with_reducible rfl
          try simp only [Act.put, List.getElem_toArray, List.getElem_cons_succ, List.getElem_cons_zero, List.setIfInBounds_toArray, List.set_cons_zero, List.set_cons_succ]
          refine wpAnyH_take (i := 5) (v := ?_) rfl (by kernel_rfl) (by kernel_rfl) (by kernel_rfl) (fun _ _ _ h => h) (Or.inl ⟨by rfl, ?_⟩) (by assumption) ?_
          rotate_left
          · intro w hSw
            (try dsimp only at hSw)
            go_simp
            all_goals with_reducible rfl
          try simp only [Act.put, List.getElem_toArray, List.getElem_cons_succ, List.getElem_cons_zero, List.setIfInBounds_toArray, List.set_cons_zero, List.set_cons_succ]
          refine wpAnyH_take (i := 6) (v := ?_) rfl (by kernel_rfl) (by kernel_rfl) (by kernel_rfl) (fun _ _ _ h => h) (Or.inl ⟨by rfl, ?_⟩) (by assumption) ?_
          rotate_left
          · intro w hSw
            (try dsimp only at hSw)
            go_simp
            all_goals with_reducible rfl
          try simp only [Act.put, List.getElem_toArray, List.getElem_cons_succ, List.getElem_cons_zero, List.setIfInBounds_toArray, List.set_cons_zero, List.set_cons_succ]
          refine wpAnyH_take (i := 7) (v := ?_) rfl (by kernel_rfl) (by kernel_rfl) (by kernel_rfl) (fun _ _ _ h => h) (Or.inl ⟨by rfl, ?_⟩) (by assumption) ?_
          rotate_left
          · intro w hSw
            (try dsimp only at hSw)
            go_simp
            all_goals with_reducible rfl
          try simp only [Act.put, List.getElem_toArray, List.getElem_cons_succ, List.getElem_cons_zero, List.setIfInBounds_toArray, List.set_cons_zero, List.set_cons_succ]
          refine wpAnyH_take (i := 8) (v := ?_) rfl (by kernel_rfl) (by kernel_rfl) (by kernel_rfl) (fun _ _ _ h => h) (Or.inl ⟨by rfl, ?_⟩) (by assumption) ?_
          rotate_left
          · intro w hSw
            (try dsimp only at hSw)
            go_simp
            all_goals with_reducible rfl
          try simp only [Act.put, List.getElem_toArray, List.getElem_cons_succ, List.getElem_cons_zero, List.setIfInBounds_toArray, List.set_cons_zero, List.set_cons_succ]
          refine wpAnyH_take (i := 9) (v := ?_) rfl (by kernel_rfl) (by kernel_rfl) (by kernel_rfl) (fun _ _ _ h => h) (Or.inl ⟨by rfl, ?_⟩) (by assumption) ?_
          rotate_left
          · intro w hSw
            (try dsimp only at hSw)
            go_simp
            all_goals with_reducible rfl
          try simp only [Act.put, List.getElem_toArray, List.getElem_cons_succ, List.getElem_cons_zero, List.setIfInBounds_toArray, List.set_cons_zero, List.set_cons_succ]
          refine wpAnyH_take (i := 10) (v := ?_) rfl (by kernel_rfl) (by kernel_rfl) (by kernel_rfl) (fun _ _ _ h => h) (Or.inl ⟨by rfl, ?_⟩) (by assumption) ?_
          rotate_left
          · intro w hSw
            (try dsimp only at hSw)
            go_simp
            all_goals with_reducible rfl
          try simp only [Act.put, List.getElem_toArray, List.getElem_cons_succ, List.getElem_cons_zero, List.setIfInBounds_toArray, List.set_cons_zero, List.set_cons_succ]
          refine take_first (i := 11) rfl (by kernel_rfl) (by kernel_rfl) (by kernel_rfl) (fun _ _ _ h => h) (GivesIf.call (by rfl) (fun w => ?_) (fun w hS => NXW.out _ hS.1)) (by assumption) ?_
          · go_simp
            all_goals with_reducible rfl
          try simp only [Act.put, List.getElem_toArray, List.getElem_cons_succ, List.getElem_cons_zero, List.setIfInBounds_toArray, List.set_cons_zero, List.set_cons_succ]
          refine wpAnyH_take (i := 12) (v := ?_) rfl (by kernel_rfl) (by kernel_rfl) (by kernel_rfl) (fun _ _ _ h => h) (Or.inl ⟨by rfl, ?_⟩) (by assumption) ?_
          rotate_left
          · intro w hSw
            (try dsimp only at hSw)
            go_simp
            all_goals with_reducible rfl
          try simp only [Act.put, List.getElem_toArray, List.getElem_cons_succ, List.getElem_cons_zero, List.setIfInBounds_toArray, List.set_cons_zero, List.set_cons_succ]
          refine wpAnyH_take (i := 13) (v := ?_) rfl (by kernel_rfl) (by kernel_rfl) (by kernel_rfl) (fun _ _ _ h => h) (Or.inl ⟨by rfl, ?_⟩) (by assumption) ?_
          rotate_left
          · intro w hSw
            (try dsimp only at hSw)
            go_simp
            all_goals with_reducible rfl
          try simp only [Act.put, List.getElem_toArray, List.getElem_cons_succ, List.getElem_cons_zero, List.setIfInBounds_toArray, List.set_cons_zero, List.set_cons_succ]
          refine wpAnyH_take (i := 14) (v := ?_) rfl (by kernel_rfl) (by kernel_rfl) (by kernel_rfl) (fun _ _ _ h => h) (Or.inl ⟨by rfl, ?_⟩) (by assumption) ?_
          rotate_left
          · intro w hSw
            (try dsimp only at hSw)
            go_simp
            all_goals with_reducible rfl
          try simp only [Act.put, List.getElem_toArray, List.getElem_cons_succ, List.getElem_cons_zero, List.setIfInBounds_toArray, List.set_cons_zero, List.set_cons_succ]
          refine wpAnyH_take (i := 15) (v := ?_) rfl (by kernel_rfl) (by kernel_rfl) (by kernel_rfl) (fun _ _ _ h => h) (Or.inl ⟨by rfl, ?_⟩) (by assumption) ?_
          rotate_left
          · intro w hSw
            (try dsimp only at hSw)
            go_simp
            all_goals with_reducible rfl
          try simp only [Act.put, List.getElem_toArray, List.getElem_cons_succ, List.getElem_cons_zero, List.setIfInBounds_toArray, List.set_cons_zero, List.set_cons_succ]
          refine wpAnyH_take (i := 16) (v := ?_) rfl (by kernel_rfl) (by kernel_rfl) (by kernel_rfl) (fun _ _ _ h => h) (Or.inl ⟨by rfl, ?_⟩) (by assumption) ?_
          rotate_left
          · intro w hSw
            (try dsimp only at hSw)
            go_simp
            all_goals with_reducible rfl
          try simp only [Act.put, List.getElem_toArray, List.getElem_cons_succ, List.getElem_cons_zero, List.setIfInBounds_toArray, List.set_cons_zero, List.set_cons_succ]
          refine wpAnyH_take (i := 17) (v := ?_) rfl (by kernel_rfl) (by kernel_rfl) (by kernel_rfl) (fun _ _ _ h => h) (Or.inl ⟨by rfl, ?_⟩) (by assumption) ?_
          rotate_left
          · intro w hSw
            (try dsimp only at hSw)
            go_simp
            all_goals with_reducible rfl
          try simp only [Act.put, List.getElem_toArray, List.getElem_cons_succ, List.getElem_cons_zero, List.setIfInBounds_toArray, List.set_cons_zero, List.set_cons_succ]
          refine wpAnyH_take (i := 18) (v := ?_) rfl (by kernel_rfl) (by kernel_rfl) (by kernel_rfl) (fun _ _ _ h => h) (Or.inl ⟨by rfl, ?_⟩) (by assumption) ?_
          rotate_left
          · intro w hSw
            (try dsimp only at hSw)
            go_simp
            all_goals with_reducible rfl
          try simp only [Act.put, List.getElem_toArray, List.getElem_cons_succ, List.getElem_cons_zero, List.setIfInBounds_toArray, List.set_cons_zero, List.set_cons_succ]
          refine wpAnyH_take (i := 19) (v := ?_) rfl (by kernel_rfl) (by kernel_rfl) (by kernel_rfl) (fun _ _ _ h => h) (Or.inl ⟨by rfl, ?_⟩) (by assumption) ?_
          rotate_left
          · intro w hSw
            (try dsimp only at hSw)
            go_simp
            all_goals with_reducible rfl
          try simp only [Act.put, List.getElem_toArray, List.getElem_cons_succ, List.getElem_cons_zero, List.setIfInBounds_toArray, List.set_cons_zero, List.set_cons_succ]
          refine wpAnyH_take (i := 20) (v := ?_) rfl (by kernel_rfl) (by kernel_rfl) (by kernel_rfl) (fun _ _ _ h => h) (Or.inl ⟨by rfl, ?_⟩) (by assumption) ?_
          rotate_left
          · intro w hSw
            (try dsimp only at hSw)
            go_simp
            all_goals with_reducible rfl
          try simp only [Act.put, List.getElem_toArray, List.getElem_cons_succ, List.getElem_cons_zero, List.setIfInBounds_toArray, List.set_cons_zero, List.set_cons_succ]
          refine wpAnyH_take (i := 21) (v := ?_) rfl (by kernel_rfl) (by kernel_rfl) (by kernel_rfl) (fun _ _ _ h => h) (Or.inl ⟨by rfl, ?_⟩) (by assumption) ?_
          rotate_left
          · intro w hSw
            (try dsimp only at hSw)
            go_simp
            all_goals with_reducible rfl
          try simp only [Act.put, List.getElem_toArray, List.getElem_cons_succ, List.getElem_cons_zero, List.setIfInBounds_toArray, List.set_cons_zero, List.set_cons_succ]
          refine wpAnyH_take (i := 22) (v := ?_) rfl (by kernel_rfl) (by kernel_rfl) (by kernel_rfl) (fun _ _ _ h => h) (Or.inl ⟨by rfl, ?_⟩) (by assumption) ?_
          rotate_left
          · intro w hSw
            (try dsimp only at hSw)
            go_simp
            all_goals with_reducible rfl
          try simp only [Act.put, List.getElem_toArray, List.getElem_cons_succ, List.getElem_cons_zero, List.setIfInBounds_toArray, List.set_cons_zero, List.set_cons_succ]
          refine wpAnyH_take (i := 23) (v := ?_) rfl (by kernel_rfl) (by kernel_rfl) (by kernel_rfl) (fun _ _ _ h => h) (Or.inl ⟨by rfl, ?_⟩) (by assumption) ?_
          rotate_left
          · intro w hSw
            (try dsimp only at hSw)
            go_simp
            all_goals with_reducible rfl
          try simp only [Act.put, List.getElem_toArray, List.getElem_cons_succ, List.getElem_cons_zero, List.setIfInBounds_toArray, List.set_cons_zero, List.set_cons_succ]
          refine wpAnyH_take (i := 24) (v := ?_) rfl (by kernel_rfl) (by kernel_rfl) (by kernel_rfl) (fun _ _ _ h => h) (Or.inl ⟨by rfl, ?_⟩) (by assumption) ?_
          rotate_left
          · intro w hSw
            (try dsimp only at hSw)
            go_simp
            all_goals with_reducible rfl
          try simp only [Act.put, List.getElem_toArray, List.getElem_cons_succ, List.getElem_cons_zero, List.setIfInBounds_toArray, List.set_cons_zero, List.set_cons_succ]
          refine wpAnyH_take (i := 25) (v := ?_) rfl (by kernel_rfl) (by kernel_rfl) (by kernel_rfl) (fun _ _ _ h => h) (Or.inl ⟨by rfl, ?_⟩) (by assumption) ?_
          rotate_left
          · intro w hSw
            (try dsimp only at hSw)
            go_simp
            all_goals with_reducible rfl
          try simp only [Act.put, List.getElem_toArray, List.getElem_cons_succ, List.getElem_cons_zero, List.setIfInBounds_toArray, List.set_cons_zero, List.set_cons_succ]
          refine wpAnyH_take (i := 26) (v := ?_) rfl (by kernel_rfl) (by kernel_rfl) (by kernel_rfl) (fun _ _ _ h => h) (Or.inl ⟨by rfl, ?_⟩) (by assumption) ?_
          rotate_left
          · intro w hSw
            (try dsimp only at hSw)
            go_simp
            all_goals with_reducible rfl
          try simp only [Act.put, List.getElem_toArray, List.getElem_cons_succ, List.getElem_cons_zero, List.setIfInBounds_toArray, List.set_cons_zero, List.set_cons_succ]
          refine wpAnyH_take (i := 27) (v := ?_) rfl (by kernel_rfl) (by kernel_rfl) (by kernel_rfl) (fun _ _ _ h => h) (Or.inl ⟨by rfl, ?_⟩) (by assumption) ?_
          rotate_left
          · intro w hSw
            (try dsimp only at hSw)
            go_simp
            all_goals with_reducible rfl
          try simp only [Act.put, List.getElem_toArray, List.getElem_cons_succ, List.getElem_cons_zero, List.setIfInBounds_toArray, List.set_cons_zero, List.set_cons_succ]
          refine wpAnyH_take (i := 28) (v := ?_) rfl (by kernel_rfl) (by kernel_rfl) (by kernel_rfl) (fun _ _ _ h => h) (Or.inl ⟨by rfl, ?_⟩) (by assumption) ?_
          rotate_left
          · intro w hSw
            (try dsimp only at hSw)
            go_simp
            all_goals with_reducible rfl
          try simp only [Act.put, List.getElem_toArray, List.getElem_cons_succ, List.getElem_cons_zero, List.setIfInBounds_toArray, List.set_cons_zero, List.set_cons_succ]
          refine wpAnyH_take (i := 29) (v := ?_) rfl (by kernel_rfl) (by kernel_rfl) (by kernel_rfl) (fun _ _ _ h => h) (Or.inl ⟨by rfl, ?_⟩) (by assumption) ?_
          rotate_left
          · intro w hSw
            (try dsimp only at hSw)
            go_simp
            all_goals with_reducible rfl
          try simp only [Act.put, List.getElem_toArray, List.getElem_cons_succ, List.getElem_cons_zero, List.setIfInBounds_toArray, List.set_cons_zero, List.set_cons_succ]
          refine wpAnyH_take (i := 30) (v := ?_) rfl (by kernel_rfl) (by kernel_rfl) (by kernel_rfl) (fun _ _ _ h => h) (Or.inl ⟨by rfl, ?_⟩) (by assumption) ?_
          rotate_left
          · intro w hSw
            (try dsimp only at hSw)
            go_simp
            all_goals with_reducible rfl
          try simp only [Act.put, List.getElem_toArray, List.getElem_cons_succ, List.getElem_cons_zero, List.setIfInBounds_toArray, List.set_cons_zero, List.set_cons_succ]
          refine wpAnyH_take (i := 31) (v := ?_) rfl (by kernel_rfl) (by kernel_rfl) (by kernel_rfl) (fun _ _ _ h => h) (Or.inl ⟨by rfl, ?_⟩) (by assumption) ?_
          rotate_left
          · intro w hSw
            (try dsimp only at hSw)
            go_simp
            all_goals with_reducible rfl
          try simp only [Act.put, List.getElem_toArray, List.getElem_cons_succ, List.getElem_cons_zero, List.setIfInBounds_toArray, List.set_cons_zero, List.set_cons_succ]
          refine wpAnyH_take (i := 32) (v := ?_) rfl (by kernel_rfl) (by kernel_rfl) (by kernel_rfl) (fun _ _ _ h => h) (Or.inl ⟨by rfl, ?_⟩) (by assumption) ?_
          rotate_left
          · intro w hSw
            (try dsimp only at hSw)
            go_simp
            all_goals with_reducible rfl
          try simp only [Act.put, List.getElem_toArray, List.getElem_cons_succ, List.getElem_cons_zero, List.setIfInBounds_toArray, List.set_cons_zero, List.set_cons_succ]
          refine wpAnyH_take (i := 33) (v := ?_) rfl (by kernel_rfl) (by kernel_rfl) (by kernel_rfl) (fun _ _ _ h => h) (Or.inl ⟨by rfl, ?_⟩) (by assumption) ?_
          rotate_left
          · intro w hSw
            (try dsimp only at hSw)
            go_simp
            all_goals with_reducible rfl
          try simp only [Act.put, List.getElem_toArray, List.getElem_cons_succ, List.getElem_cons_zero, List.setIfInBounds_toArray, List.set_cons_zero, List.set_cons_succ]
          refine wpAnyH_take (i := 34) (v := ?_) rfl (by kernel_rfl) (by kernel_rfl) (by kernel_rfl) (fun _ _ _ h => h) (Or.inl ⟨by rfl, ?_⟩) (by assumption) ?_
          rotate_left
          · intro w hSw
            (try dsimp only at hSw)
            go_simp
            all_goals with_reducible rfl
          try simp only [Act.put, List.getElem_toArray, List.getElem_cons_succ, List.getElem_cons_zero, List.setIfInBounds_toArray, List.set_cons_zero, List.set_cons_succ]
          refine wpAnyH_ready (rs := [35]) (by kernel_rfl) (by simp) ?_
          refine AllReadyH.cons rfl (fun K hK => ?_) AllReadyH.nil
          rw [if_pos (by rfl)]
          go_simp
          obtain ⟨x8, hx8⟩ : ∃ x, x = (w7.alloc (.cells #[.int .i64 op.kind, .int .i64 g.next, .slice op.ba op.bs.length op.bc] 62)).drew := ⟨_, rfl⟩
          have b8 : Below w7.heap.size w7 x8 := by rw [hx8]; exact Below.drew ((Below.refl _ _).alloc (Nat.le_refl _) _)
          have h8 : x8.heap[w7.heap.size]? = some (.cells #[.int .i64 op.kind, .int .i64 g.next, .slice op.ba op.bs.length op.bc] 62 (0, 0)) := by rw [hx8]; exact heap_alloc_new w7 _
          rw [← hx8]
          clear hx8
          have S8 : Below w7.heap.size w7 x8 ∧ x8.cell? ⟨wr.heap.size, 1, none⟩ = some (.int .i64 op.kind) ∧ x8.cell? ⟨wr.heap.size, 2, none⟩ = some (.slice op.ba op.bs.length op.bc) := ⟨b8, (b8.cell (p := ⟨wr.heap.size, 1, none⟩) (block_lt_of_cell z1)).trans z1, (b8.cell (p := ⟨wr.heap.size, 2, none⟩) (block_lt_of_cell z2)).trans z2⟩
          refine hK.out _ _ ?_ (fun hHeld => ?_)
          · exact S8
          clear hK K
          try simp only [Act.put, List.getElem_toArray, List.getElem_cons_succ, List.getElem_cons_zero, List.setIfInBounds_toArray, List.set_cons_zero, List.set_cons_succ]
          have SC := Lib.hid (SAME.out x8 _ b8 h8)
          refine wpAnyH_ready (rs := [36]) (by kernel_rfl) (by simp) ?_
          refine AllReadyH.cons rfl (fun K hK => ?_) AllReadyH.nil
          rw [if_pos (by rfl)]
          go_simp
          go_at_call 18
          refine SC.out.mono ?_
          rintro e x9 ⟨rfl, b9⟩
          have b9' := b8.trans (b9.mono b8.size)
          refine hK.out _ _ ?_ (fun hHeld => ?_)
          · exact ⟨b9', (b9'.cell (p := ⟨wr.heap.size, 1, none⟩) (block_lt_of_cell z1)).trans z1, (b9'.cell (p := ⟨wr.heap.size, 2, none⟩) (block_lt_of_cell z2)).trans z2⟩
          clear hK K
          try simp only [Act.put, List.getElem_toArray, List.getElem_cons_succ, List.getElem_cons_zero, List.setIfInBounds_toArray, List.set_cons_zero, List.set_cons_succ]
          refine wpAnyH_take (i := 37) (v := ?_) rfl (by kernel_rfl) (by kernel_rfl) (by kernel_rfl) (fun _ _ _ h => h) (Or.inl ⟨by rfl, ?_⟩) (by assumption) ?_
          rotate_left
          · intro w hSw
            (try dsimp only at hSw)
            go_simp
            all_goals with_reducible rfl
          try simp only [Act.put, List.getElem_toArray, List.getElem_cons_succ, List.getElem_cons_zero, List.setIfInBounds_toArray, List.set_cons_zero, List.set_cons_succ]
          refine wpAnyH_take (i := 38) (v := ?_) rfl (by kernel_rfl) (by kernel_rfl) (by kernel_rfl) (fun _ _ _ h => h) (Or.inl ⟨by rfl, ?_⟩) (by assumption) ?_
          rotate_left
          · intro w hSw
            (try dsimp only at hSw)
            go_simp
            all_goals with_reducible rfl
          try simp only [Act.put, List.getElem_toArray, List.getElem_cons_succ, List.getElem_cons_zero, List.setIfInBounds_toArray, List.set_cons_zero, List.set_cons_succ]
          refine wpAnyH_take (i := 39) (v := ?_) rfl (by kernel_rfl) (by kernel_rfl) (by kernel_rfl) (fun _ _ _ h => h) (Or.inl ⟨by rfl, ?_⟩) (by assumption) ?_
          rotate_left
          · intro w hSw
            (try dsimp only at hSw)
            go_simp
            all_goals with_reducible rfl
          try simp only [Act.put, List.getElem_toArray, List.getElem_cons_succ, List.getElem_cons_zero, List.setIfInBounds_toArray, List.set_cons_zero, List.set_cons_succ]
          refine wpAnyH_done (by kernel_rfl) ?_ _
          have K9 := Lib.hid (K7.out.on b9')
          clear hHeld SC b8 h8 S8 b9 b9' z0 z1 z2 NX kcut
          go_wp2
          go_roundw
          case rel => exact ⟨k + 1, rr.2.2, rr.2.1, D6, sa6, sc6, fs ++ [⟨op.kind, g.next, op.bs⟩], S', HK.out.1, by go_num, K9.out, HD.out.1⟩
          case measure => have := HK.out.1; simp [intOf]; omega
        have d2 : decide (9 < op.what) = false := decide_eq_false c2
        clear SM NX z1 z2
        go_wp2_with fail
        go_quiet (fail)
        go_wp2_with fail
        go_roundw
        case rel => exact ⟨k + 1, rr.2.2, rr.2.1, D6, sa6, sc6, fs', S', HK.out.1, by go_num, K7.out.drewN_ _, HD.out.1⟩
        case measure => have := HK.out.1; simp [intOf]; omega
      · obtain ⟨q1, q2, q3⟩ := HD.out.2.1 hf0
        have bf0 : (rr.1.2 != 0) = true := by simpa using hf0
        have bf1 : (rr.1.2 == 0) = false := by simpa using hf0
        rw [q2] at NX
        have Q3 := Lib.hid q3
        have bq : (rr.1.1 != 0) = false := by simp [q1]
        clear q1 q2 q3 hf0
        by_cases c1 : op.what < 4
        · have d1 : decide (op.what < 4) = true := decide_eq_true c1
          have b6 : (op.what != 6) = true := by simp; omega
          have hh : op.what < 4 ∨ 9 < op.what := .inl c1
          go_wp2_with fail
          refine NX.out.mono ?_
          rintro e w9 ⟨rfl, rfl⟩
          go_wp2_with fail
          refine SM.out.mono ?_
          rintro e w8 ⟨rfl, hb8⟩
          have z0 := (hb8.cell (p := ⟨wr.heap.size, 0, none⟩) (block_lt_of_cell z0)).trans z0
          have K8 := Lib.hid (K7.out.on hb8)
          clear hb8 NX SM z1 z2
          rw [decide_eq_true (Q3.out (by simpa using b6))]
          go_wp2_with fail
          go_quiet (fail)
          go_wp2_with fail
          go_roundw
          case rel => exact ⟨k + 1, rr.2.2, rr.2.1, D6, sa6, sc6, fs', S', HK.out.1, by go_num, K8.out.drewN_ _, HD.out.1⟩
          case measure => have := HK.out.1; simp [intOf]; omega
        have d1 : decide (op.what < 4) = false := decide_eq_false c1
        by_cases c2 : 9 < op.what
        · have d2 : decide (9 < op.what) = true := decide_eq_true c2
          have b6 : (op.what != 6) = true := by simp; omega
          have hh : op.what < 4 ∨ 9 < op.what := .inr c2
          go_wp2_with fail
          refine NX.out.mono ?_
          rintro e w9 ⟨rfl, rfl⟩
          go_wp2_with fail
          refine SM.out.mono ?_
          rintro e w8 ⟨rfl, hb8⟩
          have z0 := (hb8.cell (p := ⟨wr.heap.size, 0, none⟩) (block_lt_of_cell z0)).trans z0
          have K8 := Lib.hid (K7.out.on hb8)
          clear hb8 NX SM z1 z2
          rw [decide_eq_true (Q3.out (by simpa using b6))]
          go_wp2_with fail
          go_quiet (fail)
          go_wp2_with fail
          go_roundw
          case rel => exact ⟨k + 1, rr.2.2, rr.2.1, D6, sa6, sc6, fs', S', HK.out.1, by go_num, K8.out.drewN_ _, HD.out.1⟩
          case measure => have := HK.out.1; simp [intOf]; omega
        have d2 : decide (9 < op.what) = false := decide_eq_false c2
        go_wp2_with fail
        refine NX.out.mono ?_
        rintro e w9 ⟨rfl, rfl⟩
        go_wp2_with fail
        refine SM.out.mono ?_
        rintro e w8 ⟨rfl, hb8⟩
        have z0 := (hb8.cell (p := ⟨wr.heap.size, 0, none⟩) (block_lt_of_cell z0)).trans z0
        have K8 := Lib.hid (K7.out.on hb8)
        clear hb8 NX SM z1 z2
        by_cases h6 : op.what = 6
        · have b6 : (op.what != 6) = false := by simpa using h6
          generalize decide (fs' = fs) = qq
          cases qq
          · go_wp2_with fail
            go_quiet (fail)
            go_wp2_with fail
            go_roundw
            case rel => exact ⟨k + 1, rr.2.2, rr.2.1, D6, sa6, sc6, fs', S', HK.out.1, by go_num, K8.out.drewN_ _, HD.out.1⟩
            case measure => have := HK.out.1; simp [intOf]; omega
          · go_wp2_with fail
            go_quiet (fail)
            go_wp2_with fail
            go_roundw
            case rel => exact ⟨k + 1, rr.2.2, rr.2.1, D6, sa6, sc6, fs', S', HK.out.1, by go_num, K8.out.drewN_ _, HD.out.1⟩
            case measure => have := HK.out.1; simp [intOf]; omega
        · rw [decide_eq_true (Q3.out h6)]
          go_wp2_with fail
          go_quiet (fail)
          go_wp2_with fail
          go_roundw
          case rel => exact ⟨k + 1, rr.2.2, rr.2.1, D6, sa6, sc6, fs', S', HK.out.1, by go_num, K8.out.drewN_ _, HD.out.1⟩
          case measure => have := HK.out.1; simp [intOf]; omega
    · have hlt' : ¬ (k : Int) < (len : Int) := by omega
      have H := Lib.hid HB
      clear HB hkd hdur
      go_wp2
      go_ret
      exact ⟨rfl, H.out⟩
end Go.Proofs.YtphjpjlifdabfaaGreatDoor

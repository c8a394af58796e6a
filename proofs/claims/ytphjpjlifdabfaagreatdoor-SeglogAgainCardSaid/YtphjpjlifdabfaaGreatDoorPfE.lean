/- A crash and Open as an operation; a row of frames of the walk's own, beside a log. -/
import Derived.Test.YtphjpjlifdabfaaGreatDoorCka
import Derived.Test.YtphjpjlifdabfaaGreatDoorCkb
import Derived.Test.YtphjpjlifdabfaaGreatDoorCkc
import Derived.Test.YtphjpjlifdabfaaGreatDoorCkd
import Derived.Test.YtphjpjlifdabfaaGreatDoorCke
import Derived.Test.YtphjpjlifdabfaaGreatDoorCkf
import Derived.Test.YtphjpjlifdabfaaGreatDoorCkg
import Derived.Test.YtphjpjlifdabfaaGreatDoorCkh
import Derived.Test.YtphjpjlifdabfaaGreatDoorCki
import Derived.Test.YtphjpjlifdabfaaGreatDoorCkj
import Derived.Test.YtphjpjlifdabfaaGreatDoorCkk
import Derived.Test.YtphjpjlifdabfaaGreatDoorCkl
import Derived.Test.YtphjpjlifdabfaaGreatDoorCkm
import Derived.Maps.AppendAt
namespace Go.Proofs.YtphjpjlifdabfaaGreatDoor
set_option linter.unusedVariables false
set_option linter.unusedSimpArgs false
open Go.RowKit Go.Sort Go.Maps
open Crc Frm
open Sgn
attribute [local go_sem] Oper.semAt_some

theorem OpenL.nope {w0 w : World} {dp size : Nat} {D : Nat → Prop} {r : Int × St × Option Lg} {e : Ending} {w' : World} (h : OpenL w0 w dp size D r e w') (hn : r.2.2 = none) :
    e = .returned (.tuple #[.pointer none, .int .i64 r.1]) ∧ Mv w0 w dp D r.2.1 w' := by
  unfold OpenL at h
  rw [hn] at h
  exact h
/-- What a crash and Open leave. -/
def Opn9 (w0 w : World) (dp size : Nat) (D : Nat → Prop) (t : St) (r : Int × St × Option Lg) (e : Ending) (w' : World) : Prop :=
  Good t.D t.room ∧ ((r.2.2 = none ∧ e = .returned (.tuple #[.pointer none, .int .i64 0, .int .i64 r.1]) ∧ Below w0.heap.size w0 w' ∧ But D w w') ∨
    ∃ g lp D' sa sc, r.2.2 = some g ∧ e = .returned (.tuple #[.pointer (some ⟨lp, 0, none⟩), .int .i64 0, .int .i64 0]) ∧ LK w0 w' dp lp size g r.2.1 D' sa sc ∧ But D w w' ∧ ∀ k, lO D' lp sa k → D k ∨ w.heap.size ≤ k)
section
variable {w0 w : World} {dp lp size : Nat} {g : Lg} {t : St} {D : Nat → Prop} {sa : Option Addr} {sc : Nat}
set_option maxRecDepth 100000 in
set_option maxHeartbeats 3200000 in
theorem do9_any (h : LK w0 w dp lp size g t D sa sc) (hL : Laid w0) (h64 : 64 ≤ size) (h65 : size ≤ 65536) (op : OgV) {B : Nat} (ho : OgIn w B op) (hB : B ≤ w0.heap.size) (h9 : op.what = 9) :
    Calls Tryz.prog 15 #[.pointer (some ⟨dp, 0, none⟩), .pointer (some ⟨lp, 0, none⟩), .int .i64 (size : Int), ogVal op] w (Opn9 w0 w dp size D (t.crash op.ks) (lgOpen size (t.crash op.ks))) := by
  obtain ⟨wa, hwa⟩ : ∃ wa, wa = w.alloc (.cells #[.int .i64 op.what, .int .i64 op.kind, .slice op.ba op.bs.length op.bc, .int .i64 op.n, .slice op.ka op.ks.length op.kc] 41) := ⟨_, rfl⟩
  have hb1 : Below w.heap.size w wa := by rw [hwa]; exact (Below.refl _ _).alloc (Nat.le_refl _) _
  obtain ⟨x0, x1, x2, x3, x4⟩ := cell_box5 w (.int .i64 op.what) (.int .i64 op.kind) (.slice op.ba op.bs.length op.bc) (.int .i64 op.n) (.slice op.ka op.ks.length op.kc) 41
  rw [← hwa] at x0 x1 x2 x3 x4
  have hwB : B ≤ w.heap.size := Nat.le_trans hB h.dk.below.size
  have k1 := (h.on hb1).dk
  have CC := Lib.hid (k1.crash op.ks op.ka op.ks.length op.kc ((ho.row.below hb1 hwB).more hb1.size) rfl (fun hp k o e hO => by
    obtain ⟨b', o', e', hlt, _⟩ := ho.row.at_ hp
    rw [e] at e'
    injection e' with e'
    injection e' with e1 e2
    have := h.dk.base k hO
    omega))
  have HB := Lib.hid hb1
  have HW := Lib.hid hwa
  clear hb1 k1 ho h hwa
  show Calls Tryz.prog 15 #[.pointer (some ⟨dp, 0, none⟩), .pointer (some ⟨lp, 0, none⟩), .int .i64 (size : Int), .agg #[.int .i64 op.what, .int .i64 op.kind, .slice op.ba op.bs.length op.bc, .int .i64 op.n, .slice op.ka op.ks.length op.kc]] w _
  rw [h9] at HW x0 ⊢
  go_enter Tryz.func15, Tryz.ntmps15
  go_wp2_with fail
  rw [← HW.out]
  refine CC.out.mono ?_
  rintro e w5 ⟨rfl, hmv⟩
  obtain ⟨O5, k5, b5, f5⟩ := hmv
  have OP := Lib.hid (lgopen_any k5 hL h64 h65)
  have H5 := Lib.hid (And.intro b5 (And.intro f5 k5))
  generalize t.crash op.ks = t5 at *
  clear k5 b5 f5 CC
  go_wp2_with fail
  refine OP.out.mono ?_
  rintro e w6 hO
  cases hr : (lgOpen size t5).2.2 with
  | none =>
    obtain ⟨rfl, hmv⟩ := hO.nope hr
    obtain ⟨O6, k6, b6, _⟩ := hmv
    have hsz := HB.out.size
    have hbt : But D w w6 := ((But.of_below (O := D) HB.out).trans H5.out.1 (fun _ hk => .inl hk)).trans b6 (fun k hk => by rcases H5.out.2.1 k hk with h1 | h1; exact .inl h1; right; omega)
    have K := Lib.hid (And.intro k6.below hbt)
    have HR := Lib.hid hr
    clear hO hr k6 b6 hbt hsz OP
    generalize (lgOpen size t5) = r at *
    go_wp2
    go_ret3
    exact ⟨H5.out.2.2.good, .inl ⟨HR.out, rfl, K.out.1, K.out.2⟩⟩
  | some g' =>
    unfold OpenL at hO
    rw [hr] at hO
    obtain ⟨lq, D', sa', sc', rfl, hk, hb, hge, hf⟩ := hO
    have hsz := HB.out.size
    have hbt : But D w w6 := ((But.of_below (O := D) HB.out).trans H5.out.1 (fun _ hk => .inl hk)).trans hb (fun k hk => by rcases H5.out.2.1 k hk with h1 | h1; exact .inl h1; right; omega)
    have hlk : ∀ k, lO D' lq sa' k → D k ∨ w.heap.size ≤ k := fun k hk => by
      have h5 := H5.out.1.size
      rcases hf k hk with h1 | h1
      · rcases H5.out.2.1 k h1 with h2 | h2
        · exact Or.inl h2
        · right; omega
      · right; omega
    have K := Lib.hid (And.intro hk (And.intro hbt hlk))
    have HR := Lib.hid hr
    clear hr hk hb hge hf OP hsz hbt hlk
    generalize (lgOpen size t5) = r at *
    go_wp2
    go_ret3
    exact ⟨H5.out.2.2.good, .inr ⟨g', lq, D', sa', sc', HR.out, rfl, K.out.1, K.out.2.1, K.out.2.2⟩⟩
end
/-- A row of frames of the walk's own, none of whose blocks is in O. -/
structure AllR (w : World) (O : Nat → Prop) (base : Nat) (v : Value) (ts : List FC) : Prop where
  own : OwnF w base v ts
  row : ∀ k, v.ownBlock = some k → ¬ O k
  bod : ∀ t ∈ ts, 0 < t.1.body.length → ∀ b o, t.2.1 = some ⟨b, o, none⟩ → ¬ O b
section
variable {w w' : World} {O O' : Nat → Prop} {base : Nat} {v : Value} {ts : List FC}
theorem AllR.but (h : AllR w O base v ts) (hb : But O w w') (hO : ∀ k, k < w.heap.size → ¬ O k → ¬ O' k) : AllR w' O' base v ts := by
  refine ⟨⟨⟨h.own.own.1, ?_⟩, fun t ht => ⟨(h.own.bodies t ht).1.same_ hb.size (fun hp b o e => ?_), (h.own.bodies t ht).2⟩⟩, fun k hk => hO k (World.ownsRow.lt h.own.own k hk).2 (h.row k hk), fun t ht hp b o e => ?_⟩
  · rcases h.own.own.2 with h1 | ⟨g, cap, cur, e, h2, h3, rest⟩
    · exact .inl h1
    · exact .inr ⟨g, cap, cur, e, h2, (hb.block g (lt_of_heap h3) (h.row g (by rw [e]; rfl))).trans h3, rest⟩
  · obtain ⟨b', o', e', hlt, _⟩ := (h.own.bodies t ht).1.at_ hp
    rw [e] at e'
    cases e'
    exact hb.block b hlt (h.bod t ht hp b o e)
  · obtain ⟨b', o', e', hlt, _⟩ := (h.own.bodies t ht).1.at_ hp
    rw [e] at e'
    cases e'
    exact hO b hlt (h.bod t ht hp b o e)
theorem AllR.on (h : AllR w O base v ts) (hb : Below w.heap.size w w') : AllR w' O base v ts :=
  ⟨h.own.below hb, h.row, h.bod⟩
theorem AllR.to (h : AllR w O base v ts) (hO : ∀ k, k < w.heap.size → ¬ O k → ¬ O' k) : AllR w O' base v ts := h.but ⟨rfl, rfl, rfl, Nat.le_refl _, fun _ _ _ => rfl⟩ hO
theorem fcells_take (ts : List FC) (k : Nat) : (fcells ts).take (k * 3) = fcells (ts.take k) := by
  rcases Nat.lt_or_ge k ts.length with h | h
  · have e : fcells ts = fcells (ts.take k) ++ fcells (ts.drop k) := by rw [← fcells_append, List.take_append_drop]
    rw [e, List.take_append_of_le_length (by rw [fcells_len, List.length_take]; omega), List.take_of_length_le (by rw [fcells_len, List.length_take]; omega)]
  · rw [List.take_of_length_le (by rw [fcells_len]; omega), List.take_of_length_le h]
theorem AllR.take {a : Option Addr} {n c : Nat} (h : AllR w O base (.slice a n c) ts) {k : Nat} (hk : k ≤ ts.length) : AllR w O base (.slice a k c) (ts.take k) := by
  have hob : (Value.slice a k c).ownBlock = (Value.slice a n c).ownBlock := by cases a <;> rfl
  refine ⟨⟨⟨by rw [List.length_take, Nat.min_eq_left hk, fcells_len, List.length_take, Nat.min_eq_left hk], ?_⟩, fun t ht => ?_⟩, fun q hq => h.row q (by rw [← hob]; exact hq), fun t ht => h.bod t (List.mem_of_mem_take ht)⟩
  · rcases h.own.own.2 with ⟨h1, h0⟩ | ⟨g, cap, cur, e, h2, h3, h4, h5, h6, h7⟩
    · injection h1 with e1 e2 e3
      have hts : ts = [] := List.eq_nil_of_length_eq_zero h0
      subst hts
      have : k = 0 := by simpa using hk
      subst this e1 e3
      exact .inl ⟨rfl, rfl⟩
    · injection e with e1 e2 e3
      subst e1 e3
      refine .inr ⟨g, c, cur, by rw [List.length_take, Nat.min_eq_left hk], h2, h3, by rw [List.length_take, Nat.min_eq_left hk]; omega, h5, h6, ?_⟩
      rw [List.length_take, Nat.min_eq_left hk, ← fcells_take, ← h7, List.take_take, Nat.min_eq_left (by omega)]
  · obtain ⟨k1, k2⟩ := h.own.bodies t (List.mem_of_mem_take ht)
    exact ⟨k1, fun hp b o e => by rw [hob]; exact k2 hp b o e⟩
end
end Go.Proofs.YtphjpjlifdabfaaGreatDoor

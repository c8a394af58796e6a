/- What a call of the log leaves, against all that was appended; cuts of rows of frames; append of a frame at a drawn step. -/
import Derived.Test.YtphjpjlifdabfaaGreatDoorCka
import Derived.Test.YtphjpjlifdabfaaGreatDoorCkb
import Derived.Test.YtphjpjlifdabfaaGreatDoorCkc
import Derived.Test.YtphjpjlifdabfaaGreatDoorCkd
import Derived.Test.YtphjpjlifdabfaaGreatDoorCke
import Derived.Test.YtphjpjlifdabfaaGreatDoorCkf
import Derived.Test.YtphjpjlifdabfaaGreatDoorCkg
import Derived.Test.YtphjpjlifdabfaaGreatDoorCkh
import Derived.Test.YtphjpjlifdabfaaGreatDoorCki
import Derived.Test.YtphjpjlifdabfaaGreatDoorCkj
import Derived.Test.YtphjpjlifdabfaaGreatDoorCkk
import Derived.Test.YtphjpjlifdabfaaGreatDoorCkl
import Derived.Test.YtphjpjlifdabfaaGreatDoorCkm
import Derived.Test.YtphjpjlifdabfaaGreatDoorPfE
namespace Go.Proofs.YtphjpjlifdabfaaGreatDoor
set_option linter.unusedVariables false
set_option linter.unusedSimpArgs false
open Go.RowKit Go.Sort Go.Maps
open Crc Frm
open Sgn

theorem append_len {size : Nat} {g : Lg} {t : St} {kind : Int} {body : List Nat} (h : (lgAppend size g t kind body).1.2 = 0) : body.length ≤ 1800 := by
  unfold lgAppend at h
  simp only at h
  by_cases hr : (⟨kind, g.next, body⟩ : Fr).right
  · exact hr.2.2.2.2
  · rw [if_pos hr] at h
    cases h
/-- A call but a crash: what lasts still lasts; the frames are the same, but for the first ones, or one more. -/
theorem LDur.do_p {g : Lg} {t : St} {fs : List Fr} {S : Int} (h : LDur g t fs S) (size : Nat) (op : OgV) (h9 : op.what ≠ 9) :
    ∃ fs' S', LDur (lgDo size g t op).2.2 (lgDo size g t op).2.1 fs' S' ∧ S ≤ S' ∧
      ((op.what = 4 ∨ op.what = 5) → (lgDo size g t op).1.2 = 0 → S' = g.next) ∧
      (((op.what < 4 ∨ 9 < op.what) ∧ (lgDo size g t op).1.2 = 0 ∧ (lgDo size g t op).1.1 = g.next ∧ (lgDo size g t op).2.2.next = g.next + 1 ∧ fs' = fs ++ [⟨op.kind, g.next, op.bs⟩] ∧ op.bs.length ≤ 1800) ∨
       (((op.what < 4 ∨ 9 < op.what) → (lgDo size g t op).1.2 ≠ 0) ∧ (lgDo size g t op).2.2.next = g.next ∧ ∃ j, j ≤ fs.length ∧ fs' = fs.drop j)) := by
  unfold lgDo
  by_cases h45 : op.what = 4 ∨ op.what = 5
  · rw [if_pos h45]
    have hno : ¬ (op.what < 4 ∨ 9 < op.what) := by omega
    have hle := h.le_next
    have hs := h.sync
    by_cases h0 : (lgSync g t).1 = 0
    · exact ⟨fs, g.next, (hs.1 h0).1, hle, fun _ _ => rfl, .inr ⟨fun hh => absurd hh hno, rfl, 0, Nat.zero_le _, rfl⟩⟩
    · exact ⟨fs, S, hs.2 h0, Int.le_refl _, fun _ hh => absurd hh h0, .inr ⟨fun hh => absurd hh hno, rfl, 0, Nat.zero_le _, rfl⟩⟩
  rw [if_neg h45]
  by_cases h6 : op.what = 6
  · rw [if_pos h6]
    have hno : ¬ (op.what < 4 ∨ 9 < op.what) := by omega
    obtain ⟨a, b, hab, hd⟩ := h.retain op.n
    obtain ⟨k, _, _, _, _, _, _, hg, _⟩ := h.inv.retain op.n
    refine ⟨b, S, hd, Int.le_refl _, fun hh => absurd hh h45, .inr ⟨fun hh => absurd hh hno, by show (lgRetain g t op.n).2.2.next = _; rw [hg], a.length, by rw [hab]; simp, by rw [hab]; simp⟩⟩
  rw [if_neg h6]
  by_cases h7 : op.what = 7
  · rw [if_pos h7]
    have hno : ¬ (op.what < 4 ∨ 9 < op.what) := by omega
    exact ⟨fs, S, h.fuse op.n, Int.le_refl _, fun hh => absurd hh h45, .inr ⟨fun hh => absurd hh hno, rfl, 0, Nat.zero_le _, rfl⟩⟩
  rw [if_neg h7]
  by_cases h8 : op.what = 8
  · rw [if_pos h8]
    have hno : ¬ (op.what < 4 ∨ 9 < op.what) := by omega
    exact ⟨fs, S, h.fail op.n, Int.le_refl _, fun hh => absurd hh h45, .inr ⟨fun hh => absurd hh hno, rfl, 0, Nat.zero_le _, rfl⟩⟩
  rw [if_neg h8]
  have hd := h.append size op.kind op.bs
  have hi := h.inv.append size op.kind op.bs
  by_cases h0 : (lgAppend size g t op.kind op.bs).1.2 = 0
  · obtain ⟨i1, i2, _⟩ := hi.2 h0
    refine ⟨_, S, hd.2 h0, Int.le_refl _, fun hh => absurd hh h45, ?_⟩
    have had : op.what < 4 ∨ 9 < op.what := by clear hd hi h0 i1 i2; omega
    exact .inl ⟨had, h0, i1, i2, rfl, append_len h0⟩
  · obtain ⟨i1, i2, _⟩ := hi.1 h0
    exact ⟨fs, S, hd.1 h0, Int.le_refl _, fun hh => absurd hh h45, .inr ⟨fun _ => h0, i2, 0, Nat.zero_le _, rfl⟩⟩
/-- Where its first frame stands among all that were appended. -/
theorem LDur.head {g : Lg} {t : St} {fs : List Fr} {S : Int} (h : LDur g t fs S) : 0 ≤ g.segs.headD 0 ∧ g.segs.headD 0 ≤ 1073741824 ∧ g.next = g.segs.headD 0 + (fs.length : Int) := by
  have h1 := h.inv.chain.order
  cases hs : g.segs with
  | nil => exact absurd hs h.inv.chain.ne
  | cons x l =>
    have := h1.1 x (by rw [hs]; simp)
    rw [hs] at h1
    exact ⟨this.1, this.2.1, h1.2⟩
theorem LK.out_ {w0 w w' : World} {dp lp size : Nat} {g : Lg} {t : St} {D O : Nat → Prop} {sa : Option Addr} {sc : Nat} (h : LK w0 w dp lp size g t D sa sc) (hb : But O w w') (hO : ∀ k, O k → ¬ lO D lp sa k ∧ w0.heap.size ≤ k) : LK w0 w' dp lp size g t D sa sc :=
  ⟨h.dk.out_ hb (fun k hk => ⟨fun hd => (hO k hk).1 (.inl hd), (hO k hk).2⟩), h.at_.but hb (fun hk => (hO _ hk).1 (.inr (.inl rfl))) (fun k o e hk => (hO _ hk).1 (.inr (.inr ⟨o, e⟩))), h.base, h.own, fun k o e => by
    obtain ⟨h1, h2, h3, h4⟩ := h.far k o e
    exact ⟨h1, h2, h3, Nat.lt_of_lt_of_le h4 hb.size⟩⟩
/-- One frame more. -/
theorem AllR.more {x w' : World} {O : Nat → Prop} {base g : Nat} {v v' : Value} {ts : List FC} {t : FC} (h : AllR x O base v ts) (ho : OwnF w' base v' (ts ++ [t])) (hv : v'.ownBlock = v.ownBlock ∨ v'.ownBlock = some x.heap.size) (hx : ¬ O x.heap.size) (ht : 0 < t.1.body.length → ∀ b o, t.2.1 = some ⟨b, o, none⟩ → ¬ O b) : AllR w' O base v' (ts ++ [t]) :=
  ⟨ho, fun k hk => by
    rcases hv with h1 | h1
    · exact h.row k (by rw [← h1]; exact hk)
    · rw [h1] at hk; injection hk with hk; subst hk; exact hx, fun u hu => by
    rcases List.mem_append.1 hu with hu | hu
    · exact h.bod u hu
    · simp at hu; subst hu; exact ht⟩
def cutF (a : Option Addr) (cap k : Nat) : Option Addr := if cap = k then a else a.map (·.add (k * 3))
section
variable {P : Program} (t e : TypeId) (ht : P.underlying t = some (.slice e)) {z : Value} {by_ : Nat} (hi : (P.info? e).map (fun i => (i.zero, i.size, i.bytes)) = some (some z, 3, by_))
include ht hi
theorem run_cutF_mid (a : Option Addr) (len cap j k : Nat) (hj : j ≤ k) (hk : k ≤ cap) (w : World) :
    (Instr.slice t (.slice a len cap) (some (.int .i64 (j : Int))) (some (.int .i64 (k : Int))) none).run P w = .ok (.slice (cutF a cap j) (k - j) (cap - j)) w := by
  obtain ⟨i, hi, _, hz1, _⟩ := info_parts hi
  have hs : (sizeOf e).run P w = .ok 3 w := by simp [sizeOf, typeInfo, hi, hz1]
  have ht' : P.underlying t = some (.slice (P.elem t)) := by simp [Program.elem, ht]
  have he : P.elem t = e := by simp [Program.elem, ht]
  rw [run_slice_lh w t _ _ _ ht' .i64 .i64 _ _ (by omega) (by omega) (by omega), he, hs]
  simp [Result.andThen, sliced, cutF]
theorem run_cutF_to (a : Option Addr) (len cap k : Nat) (hk : k ≤ cap) (w : World) :
    (Instr.slice t (.slice a len cap) none (some (.int .i64 (k : Int))) none).run P w = .ok (.slice a k cap) w := by
  obtain ⟨i, hi, _, hz1, _⟩ := info_parts hi
  have hs : (sizeOf e).run P w = .ok 3 w := by simp [sizeOf, typeInfo, hi, hz1]
  have ht' : P.underlying t = some (.slice (P.elem t)) := by simp [Program.elem, ht]
  have he : P.elem t = e := by simp [Program.elem, ht]
  rw [run_slice_h w t _ _ _ ht' .i64 _ (by omega) (by omega), he, hs]
  have ha : a.map (fun x => x.add 0) = a := by cases a <;> simp [Addr.add]
  simp [Result.andThen, sliced, ha]
end
theorem Frs.cut {w : World} {B : Nat} {a : Option Addr} {len cap : Nat} {fs : List Fr} (h : Frs w B a len cap fs) {j k : Nat} (hj : j ≤ k) (hk : k ≤ len) : Frs w B (cutF a cap j) (k - j) (cap - j) ((fs.take k).drop j) := by
  have h' := h.take hk
  refine ⟨by rw [List.length_drop, h'.length], by have := h'.le; omega, by have := h'.max; omega, fun hp => ?_⟩
  obtain ⟨b, o, e, hlt, hc⟩ := h'.at_ (by omega)
  have hle := h'.le
  refine ⟨b, o + j * 3, by unfold cutF; rw [if_neg (by omega), e]; simp [Addr.add], hlt, fun i f hf => ?_⟩
  rw [List.getElem?_drop] at hf
  have := hc (j + i) f hf
  rw [show o + (j + i) * 3 = o + j * 3 + i * 3 from by omega] at this
  exact this
/-- 'append(l, f)' of one frame, at a drawn step. -/
theorem wp_append_fr {w : World} {o : Oper} {a : Act} {K : Act → World → Prop} {Q : Exit → Act → World → Prop} (s x : Operand)
    (ho : o.op = .call { callee := .builtin .append, args := #[s, x], argTypes := #[46, 46] })
    (base : Nat) (v : Value) (ts : List FC) (hs : a.eval s = v) (g : Nat) (t : FC) (hx : a.eval x = .slice (some ⟨g, 0, none⟩) 1 1)
    (hown : OwnF w base v ts) (hg : w.heap[g]? = some (.cells #[.int .i64 t.1.ty, .int .i64 t.1.seq, .slice t.2.1 t.1.body.length t.2.2] 62 (0, 0)))
    (hb : Sl w w.heap.size t.2.1 t.1.body.length t.2.2 t.1.body) (hbn : 0 < t.1.body.length → ∀ b o, t.2.1 = some ⟨b, o, none⟩ → some b ≠ v.ownBlock) (hn : ts.length ≤ 2000000) (hbase : base ≤ w.heap.size)
    (h : ∀ v' w', OwnF w' base v' (ts ++ [t]) → w.grownBy w' v.ownBlock → (v'.ownBlock = v.ownBlock ∨ v'.ownBlock = some w.heap.size) → K (a.put o.dst v') w') :
    o.wp Tryz.prog a w K Q := by
  obtain ⟨i, hi, hz0, hz1, hz2⟩ := info_parts info_frame
  obtain ⟨v', w', hr, h1, h2, _, h4⟩ := run_append_own_at (P := Tryz.prog) w base 46 o.type 62 i (.agg #[.int .i64 0, .int .i64 0, .slice none 0 0]) 3 40 Tryz.underlying46 hi hz0 hz1 hz2 rfl (by decide) v ts.length (fcells ts) hown.own ⟨g, 0, none⟩ 1 1
    [.int .i64 t.1.ty, .int .i64 t.1.seq, .slice t.2.1 t.1.body.length t.2.2] rfl (fun j u hj => by
      have hj3 : j < 3 := (List.getElem?_eq_some_iff.1 hj).1
      rw [Addr.add_mid, Nat.zero_add, cell_of_row w g j _ _ _ hg, List.getElem?_toArray]
      exact hj) (fun u hu => by
      simp at hu
      rcases hu with rfl | rfl | rfl <;> rfl) (by unfold maxLen; omega) (by omega) hbase
  unfold Oper.wp execOp
  simp only [ho, resolve, invoke, builtin, Sem.run_bind, Sem.run_pure, Result.andThen_ok, List.map_toArray, List.map_cons, List.map_nil, hs, hx, hr]
  refine h v' w' ⟨by rw [List.length_append, fcells_snoc]; exact h1, ?_⟩ h2 h4
  have key : ∀ (x : FC), (Sl w w.heap.size x.2.1 x.1.body.length x.2.2 x.1.body ∧ (0 < x.1.body.length → ∀ b o, x.2.1 = some ⟨b, o, none⟩ → some b ≠ v.ownBlock)) →
      Sl w' w'.heap.size x.2.1 x.1.body.length x.2.2 x.1.body ∧ (0 < x.1.body.length → ∀ b o, x.2.1 = some ⟨b, o, none⟩ → some b ≠ v'.ownBlock) := by
    rintro x ⟨hx, hne⟩
    refine ⟨(hx.kept h2 hne).more h2.size, fun hp b o e => ?_⟩
    rcases h4 with h4 | h4
    · rw [h4]; exact hne hp b o e
    · rw [h4]
      obtain ⟨b', o', e', hlt, _⟩ := hx.at_ hp
      rw [e] at e'
      injection e' with e'
      injection e' with e'
      intro hx
      injection hx with hx
      omega
  intro x hx
  rcases List.mem_append.1 hx with hx | hx
  · exact key x (hown.bodies x hx)
  · simp at hx
    subst hx
    exact key x ⟨hb, hbn⟩
end Go.Proofs.YtphjpjlifdabfaaGreatDoor

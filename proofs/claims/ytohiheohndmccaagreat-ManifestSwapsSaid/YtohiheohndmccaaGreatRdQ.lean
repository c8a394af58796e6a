/- The reference's disk that lies behind a world w0 (as DK of the program's). Crash lacks. -/
import Derived.Test.YtohiheohndmccaaGreatRdP
import Derived.Test.YtohiheohndmccaaGreatRdL
namespace Go.Proofs.YtohiheohndmccaaGreat
open Go.RowKit
open Go.Maps
structure RK (w0 w : World) (rp : Nat) (t : St) (O : Nat → Prop) : Prop where
  is : Rd w rp t O
  base : ∀ k, O k → w0.heap.size ≤ k
  below : Below w0.heap.size w0 w
theorem RK.on {w0 w w' : World} {rp : Nat} {t : St} {O : Nat → Prop} (h : RK w0 w rp t O) (hb : Below w.heap.size w w') : RK w0 w' rp t O := ⟨h.is.below hb, h.base, h.below.trans (hb.mono h.below.size)⟩
theorem RK.lt {w0 w : World} {rp : Nat} {t : St} {O : Nat → Prop} (h : RK w0 w rp t O) : ∀ k, O k → k < w.heap.size := h.is.lt
theorem RK.good {w0 w : World} {rp : Nat} {t : St} {O : Nat → Prop} (h : RK w0 w rp t O) : Good t.D t.room := h.is.good
/-- What a call of it leaves. -/
def Mr (w0 w : World) (rp : Nat) (O : Nat → Prop) (t : St) (w' : World) : Prop := ∃ O', RK w0 w' rp t O' ∧ But O w w' ∧ ∀ k, O' k → O k ∨ w.heap.size ≤ k
section
variable {w0 w : World} {rp : Nat} {t : St} {O : Nat → Prop}
theorem RK.mv (h : RK w0 w rp t O) {t' : St} {w' : World} (hm : RMv w rp O t' w') : Mr w0 w rp O t' w' := by
  obtain ⟨O', h1, h2, h3⟩ := hm
  exact ⟨O', ⟨h1, fun k hk => by rcases h3 k hk with h4 | h4; exact h.base k h4; exact Nat.le_trans h.below.size h4, h.below.trans (h2.below h.below.size h.base)⟩, h2, h3⟩
/-- What isn't the disk's stays so. -/
theorem Mr.far {t' : St} {w' : World} (h : Mr w0 w rp O t' w') : ∃ O', RK w0 w' rp t' O' ∧ But O w w' ∧ ∀ k, k < w.heap.size → ¬ O k → ¬ O' k := by
  obtain ⟨O', h1, h2, h3⟩ := h
  exact ⟨O', h1, h2, fun k hk hn ho => by rcases h3 k ho with h4 | h4; exact hn h4; omega⟩
/-- Another thing's calls leave it: what they touch is none of its own. -/
theorem RK.but (h : RK w0 w rp t O) {P : Nat → Prop} {w' : World} (hb : But P w w') (hno : ∀ k, O k → ¬ P k) (hP : ∀ k, P k → w0.heap.size ≤ k) : RK w0 w' rp t O :=
  ⟨h.is.but hb hno, h.base, h.below.trans (hb.below h.below.size hP)⟩
theorem RK.new (room : Nat) (hr : room ≤ 1048576) (w : World) : Calls Tryz.prog 6 #[.int .i64 (room : Int)] w fun e w' => ∃ rp O, e = .returned (.pointer (some ⟨rp, 0, none⟩)) ∧ RK w w' rp ⟨.map [], room, -1, 0⟩ O ∧ Below w.heap.size w w' ∧ ∀ k, O k → w.heap.size ≤ k :=
  (rnew_yes room hr w).mono fun e w' ⟨h1, h2, h3⟩ => ⟨_, _, h1, ⟨h3, fun k hk => by subst hk; exact Nat.le_refl _, h2⟩, h2, fun k hk => by subst hk; exact Nat.le_refl _⟩
theorem RK.write (h : RK w0 w rp t O) (s : ByteArray) (hs : s.size ≤ maxLen) (a : Option Addr) (n c : Nat) (b : List Nat) (hsl : Sl w w.heap.size a n c b) (hn : n ≤ 140737488351232) (hfar : 0 < n → ∀ k o, a = some ⟨k, o, none⟩ → ¬ O k) :
    Calls Tryz.prog 37 #[.pointer (some ⟨rp, 0, none⟩), .string s, .slice a n c] w fun e w' => e = .returned (.int .i64 (t.write s.data.toList b).1) ∧ Mr w0 w rp O (t.write s.data.toList b).2 w' :=
  (rwrite_any h.is s hs a n c b hsl hn hfar).mono fun _ _ hT => ⟨hT.1, h.mv hT.2⟩
theorem RK.sync (h : RK w0 w rp t O) (s : ByteArray) :
    Calls Tryz.prog 31 #[.pointer (some ⟨rp, 0, none⟩), .string s] w fun e w' => e = .returned (.int .i64 (t.sync s.data.toList).1) ∧ Mr w0 w rp O (t.sync s.data.toList).2 w' := by
  obtain ⟨a, c, es, h1⟩ := h.is
  exact (rsync_any h1 s).mono fun _ _ hT => ⟨hT.1, h.mv hT.2⟩
theorem RK.delete (h : RK w0 w rp t O) (s : ByteArray) :
    Calls Tryz.prog 33 #[.pointer (some ⟨rp, 0, none⟩), .string s] w fun e w' => e = .returned (.int .i64 (t.delete s.data.toList).1) ∧ Mr w0 w rp O (t.delete s.data.toList).2 w' := by
  obtain ⟨a, c, es, h1⟩ := h.is
  exact (rdelete_any h1 s).mono fun _ _ hT => ⟨hT.1, h.mv hT.2⟩
theorem RK.rename (h : RK w0 w rp t O) (s tn : ByteArray) (ht : tn.size ≤ maxLen) :
    Calls Tryz.prog 32 #[.pointer (some ⟨rp, 0, none⟩), .string s, .string tn] w fun e w' => e = .returned (.int .i64 (t.rename s.data.toList tn.data.toList).1) ∧ Mr w0 w rp O (t.rename s.data.toList tn.data.toList).2 w' :=
  (rrename_any h.is s tn ht).mono fun _ _ hT => ⟨hT.1, h.mv hT.2⟩
theorem RK.fuse (h : RK w0 w rp t O) (n : Int) (hn : n ≤ 9223372036854775807) : Calls Tryz.prog 34 #[.pointer (some ⟨rp, 0, none⟩), .int .i64 n] w fun e w' => e = .returned (.tuple #[]) ∧ Mr w0 w rp O (t.fuse_ n) w' := by
  obtain ⟨a, c, es, h1⟩ := h.is
  exact (rfuse_any h1 n hn).mono fun _ _ hT => ⟨hT.1, h.mv ⟨O, ⟨a, c, es, hT.2.1⟩, hT.2.2, fun _ hk => .inl hk⟩⟩
theorem RK.fail (h : RK w0 w rp t O) (n : Int) (hn : n ≤ 9223372036854775807) : Calls Tryz.prog 35 #[.pointer (some ⟨rp, 0, none⟩), .int .i64 n] w fun e w' => e = .returned (.tuple #[]) ∧ Mr w0 w rp O (t.fail_ n) w' := by
  obtain ⟨a, c, es, h1⟩ := h.is
  exact (rfail_any h1 n hn).mono fun _ _ hT => ⟨hT.1, h.mv ⟨O, ⟨a, c, es, hT.2.1⟩, hT.2.2, fun _ hk => .inl hk⟩⟩
theorem RK.read (h : RK w0 w rp t O) (s : ByteArray) : Calls Tryz.prog 47 #[.pointer (some ⟨rp, 0, none⟩), .string s] w (NewBytes w ((fat t.D s.data.toList).getD Fl.zero).bs (fat t.D s.data.toList).isSome) := by
  obtain ⟨a, c, es, h1⟩ := h.is
  exact rread1_any h1 s
theorem RK.used (h : RK w0 w rp t O) : Calls Tryz.prog 19 #[.pointer (some ⟨rp, 0, none⟩)] w fun e w' => e = .returned (.int .i64 ((tot t.D : Nat) : Int)) ∧ w = w' := by
  obtain ⟨a, c, es, h1⟩ := h.is
  exact rused_any h1
theorem RK.synced (h : RK w0 w rp t O) (s : ByteArray) : Calls Tryz.prog 21 #[.pointer (some ⟨rp, 0, none⟩), .string s] w fun e w' => e = .returned (.int .i64 (((fat t.D s.data.toList).getD Fl.zero).l : Int)) ∧ w = w' := by
  obtain ⟨a, c, es, h1⟩ := h.is
  exact rsynced_any h1 s
theorem RK.list (h : RK w0 w rp t O) : Calls Tryz.prog 17 #[.pointer (some ⟨rp, 0, none⟩)] w fun e w' => ∃ a' c', e = .returned (.slice a' (strKeys t.D).length c') ∧ Row w' w'.heap.size a' (strKeys t.D).length c' 1 (strC (strKeys t.D)) ∧ Below w.heap.size w w' := by
  obtain ⟨a, c, es, h1⟩ := h.is
  have hk : strKeys t.D = es.map (·.s) := by rw [h1.D_]; exact rD_names es
  refine (rlist_any h1).mono fun e w' ⟨a', c', he, hr, hb⟩ => ⟨a', c', ?_, ?_, hb⟩
  · rw [hk, List.length_map]; exact he
  · rw [hk, List.length_map]; exact hr
end
end Go.Proofs.YtohiheohndmccaaGreat

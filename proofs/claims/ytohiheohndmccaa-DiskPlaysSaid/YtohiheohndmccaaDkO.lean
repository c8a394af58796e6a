/- A disk that a call has made: its calls, one behind the other. -/
import Derived.Test.YtohiheohndmccaaDkN
namespace Go.Proofs.Ytohiheohndmccaa
open Go.RowKit Go.Sort
open Go.Maps

/-- A disk that lies behind all that was there in w0. -/
structure DK (w0 w : World) (dp : Nat) (t : St) (O : Nat → Prop) : Prop where
  is : IsD w dp t O
  base : ∀ k, O k → w0.heap.size ≤ k
  below : Below w0.heap.size w0 w
theorem DK.on {w0 w w' : World} {dp : Nat} {t : St} {O : Nat → Prop} (h : DK w0 w dp t O) (hb : Below w.heap.size w w') : DK w0 w' dp t O :=
  ⟨Dsk.below h.is hb, h.base, h.below.trans (hb.mono h.below.size)⟩
theorem DK.lt {w0 w : World} {dp : Nat} {t : St} {O : Nat → Prop} (h : DK w0 w dp t O) : ∀ k, O k → k < w.heap.size := Dsk.lt h.is
theorem DK.good {w0 w : World} {dp : Nat} {t : St} {O : Nat → Prop} (h : DK w0 w dp t O) : Good t.D t.room := Dsk.good h.is
/-- What a call of it leaves. -/
def Mv (w0 w : World) (dp : Nat) (O : Nat → Prop) (t : St) (w' : World) : Prop := ∃ O', DK w0 w' dp t O' ∧ But O w w' ∧ ∀ k, O' k → O k ∨ w.heap.size ≤ k
theorem Mv.of {w0 w w' : World} {dp : Nat} {O O' : Nat → Prop} {t t' : St} (h : DK w0 w dp t O) (hi : IsD w' dp t' O') (hb : But O w w') (hO : ∀ k, O' k → O k ∨ w.heap.size ≤ k) : Mv w0 w dp O t' w' :=
  ⟨O', ⟨hi, fun k hk => by rcases hO k hk with h1 | h1; exact h.base k h1; exact Nat.le_trans h.below.size h1, h.below.trans (hb.below h.below.size h.base)⟩, hb, hO⟩
/-- What isn't the disk's stays so. -/
theorem Mv.far {w0 w w' : World} {dp : Nat} {O : Nat → Prop} {t : St} (h : Mv w0 w dp O t w') : ∃ O', DK w0 w' dp t O' ∧ But O w w' ∧ ∀ k, k < w.heap.size → ¬ O k → ¬ O' k := by
  obtain ⟨O', h1, h2, h3⟩ := h
  exact ⟨O', h1, h2, fun k hk hn ho => by rcases h3 k ho with h4 | h4; exact hn h4; omega⟩
section
variable {w0 w : World} {dp : Nat} {t : St} {O : Nat → Prop}
theorem DK.new (room : Nat) (hr : room ≤ 1048576) (w : World) : Calls Try.prog 5 #[.int .i64 (room : Int)] w fun e w' => ∃ dp O, e = .returned (.pointer (some ⟨dp, 0, none⟩)) ∧ DK w w' dp ⟨.map [], room, -1, 0⟩ O ∧ Below w.heap.size w w' ∧ ∀ k, O k → w.heap.size ≤ k :=
  (new_yes room hr w).mono fun e w' ⟨h1, h2, h3⟩ => ⟨_, _, h1, ⟨h3, fun k hk => by rcases hk with rfl | rfl <;> omega, h2⟩, h2, fun k hk => by rcases hk with rfl | rfl <;> omega⟩
theorem DK.tells (h : DK w0 w dp t O) {r : Int × St} {e : Ending} {w' : World} (hT : Tells1 (Left w dp O r) e w') : e = .returned (.int .i64 r.1) ∧ Mv w0 w dp O r.2 w' := by
  obtain ⟨x, rfl, rfl, O', h1, h2, h3⟩ := hT
  exact ⟨rfl, Mv.of h h1 h2 h3⟩
theorem DK.write (h : DK w0 w dp t O) (s : ByteArray) (hs : s.size ≤ 281474976710656) (a : Option Addr) (n c : Nat) (b : List Nat) (hsl : Sl w w.heap.size a n c b) (hn : n ≤ 140737488351232) (hfar : 0 < n → ∀ k o, a = some ⟨k, o, none⟩ → ¬ O k) :
    Calls Try.prog 19 #[.pointer (some ⟨dp, 0, none⟩), .string s, .slice a n c] w fun e w' => e = .returned (.int .i64 (t.write s.data.toList b).1) ∧ Mv w0 w dp O (t.write s.data.toList b).2 w' :=
  (write_any h.is s hs a n c b hsl hn hfar).mono fun _ _ hT => h.tells hT
theorem DK.sync (h : DK w0 w dp t O) (s : ByteArray) (hs : s.size ≤ 281474976710656) :
    Calls Try.prog 20 #[.pointer (some ⟨dp, 0, none⟩), .string s] w fun e w' => e = .returned (.int .i64 (t.sync s.data.toList).1) ∧ Mv w0 w dp O (t.sync s.data.toList).2 w' :=
  (sync_any h.is s hs).mono fun _ _ hT => h.tells hT
theorem DK.delete (h : DK w0 w dp t O) (s : ByteArray) (hs : s.size ≤ 281474976710656) :
    Calls Try.prog 24 #[.pointer (some ⟨dp, 0, none⟩), .string s] w fun e w' => e = .returned (.int .i64 (t.delete s.data.toList).1) ∧ Mv w0 w dp O (t.delete s.data.toList).2 w' :=
  (delete_any h.is s hs).mono fun _ _ hT => h.tells hT
theorem DK.rename (h : DK w0 w dp t O) (s to : ByteArray) (hs : s.size ≤ 281474976710656) (ht : to.size ≤ 281474976710656) :
    Calls Try.prog 23 #[.pointer (some ⟨dp, 0, none⟩), .string s, .string to] w fun e w' => e = .returned (.int .i64 (t.rename s.data.toList to.data.toList).1) ∧ Mv w0 w dp O (t.rename s.data.toList to.data.toList).2 w' :=
  (rename_any h.is s hs to ht).mono fun _ _ hT => h.tells hT
theorem DK.turns (h : DK w0 w dp t O) {t' : St} {e : Ending} {w' : World} (hT : Turns w dp O t' e w') : e = .returned (.tuple #[]) ∧ Mv w0 w dp O t' w' :=
  ⟨hT.1, Mv.of h hT.2.1 hT.2.2 (fun _ hk => .inl hk)⟩
theorem DK.fuse (h : DK w0 w dp t O) (n : Int) (hn : n ≤ 9223372036854775807) : Calls Try.prog 22 #[.pointer (some ⟨dp, 0, none⟩), .int .i64 n] w fun e w' => e = .returned (.tuple #[]) ∧ Mv w0 w dp O (t.fuse_ n) w' :=
  (fuse_any h.is n hn).mono fun _ _ hT => h.turns hT
theorem DK.fail (h : DK w0 w dp t O) (n : Int) (hn : n ≤ 9223372036854775807) : Calls Try.prog 21 #[.pointer (some ⟨dp, 0, none⟩), .int .i64 n] w fun e w' => e = .returned (.tuple #[]) ∧ Mv w0 w dp O (t.fail_ n) w' :=
  (fail_any h.is n hn).mono fun _ _ hT => h.turns hT
theorem DK.crash (h : DK w0 w dp t O) (ks : List Int) (a : Option Addr) (n c : Nat) (hr : Row w w.heap.size a n c 1 (intsC ks)) (hn : ks.length = n) (hfar : 0 < n → ∀ k o, a = some ⟨k, o, none⟩ → ¬ O k) :
    Calls Try.prog 25 #[.pointer (some ⟨dp, 0, none⟩), .slice a n c] w fun e w' => e = .returned (.tuple #[]) ∧ Mv w0 w dp O (t.crash ks) w' :=
  (crash_any h.is ks a n c hr hn hfar).mono fun _ _ hT => h.turns hT
theorem DK.read (h : DK w0 w dp t O) (s : ByteArray) (hs : s.size ≤ maxLen) : Calls Try.prog 10 #[.pointer (some ⟨dp, 0, none⟩), .string s] w (NewBytes w ((fat t.D s.data.toList).getD Fl.zero).bs (fat t.D s.data.toList).isSome) := read_any h.is s hs
theorem DK.list (h : DK w0 w dp t O) : Calls Try.prog 13 #[.pointer (some ⟨dp, 0, none⟩)] w (NewNames w (strKeys t.D)) := by obtain ⟨mb, C, h1⟩ := h.is; exact list_any h1
theorem DK.used (h : DK w0 w dp t O) : Calls Try.prog 15 #[.pointer (some ⟨dp, 0, none⟩)] w fun e w' => e = .returned (.int .i64 ((tot t.D : Nat) : Int)) ∧ Below w.heap.size w w' := by obtain ⟨mb, C, h1⟩ := h.is; exact used_any h1
theorem DK.synced (h : DK w0 w dp t O) (s : ByteArray) (hs : s.size ≤ maxLen) : Calls Try.prog 17 #[.pointer (some ⟨dp, 0, none⟩), .string s] w fun e w' => e = .returned (.int .i64 (((fat t.D s.data.toList).getD Fl.zero).l : Int)) ∧ w = w' := by obtain ⟨mb, C, h1⟩ := h.is; exact synced_any h1 s hs
end
/-- Bytes of a literal that has just been made lie nowhere in the disk. -/
theorem lit_far {w0 w : World} {dp : Nat} {t : St} {O : Nat → Prop} (h : DK w0 w dp t O) {n : Nat} : 0 < n → ∀ k o, (some ⟨w.heap.size, 0, none⟩ : Option Addr) = some ⟨k, o, none⟩ → ¬ O k := by
  intro _ k o e ho
  injection e with e
  injection e with e1 e2
  have := h.lt k ho
  omega
theorem lit_sl (w : World) (bs : List Nat) (hb : ∀ c ∈ bs, c < 256) (hm : bs.length ≤ maxLen) : Sl (w.alloc (.cells ((bs.map bv).toArray) 5)) (w.alloc (.cells ((bs.map bv).toArray) 5)).heap.size (some ⟨w.heap.size, 0, none⟩) bs.length bs.length bs :=
  Sl.new (heap_alloc_new w _) rfl hb _ rfl hm
/-- New bytes read as such, and lie nowhere in the disk. -/
theorem NewBytes.out {w0 w w' : World} {dp : Nat} {t : St} {O : Nat → Prop} (h : DK w0 w dp t O) {bs : List Nat} {is : Bool} {e : Ending} (hN : NewBytes w bs is e w') (hb : ∀ c ∈ bs, c < 256) :
    ∃ a c, e = .returned (.tuple #[.slice a bs.length c, .bool is]) ∧ Sl w' w'.heap.size a bs.length c bs ∧ (0 < bs.length → ∀ k o, a = some ⟨k, o, none⟩ → ¬ O k ∧ w.heap.size ≤ k) ∧ Below w.heap.size w w' := by
  obtain ⟨a, c, he, ho, hB⟩ := hN
  obtain ⟨a', c', e1, hs, hbase⟩ := ho.sl_base hb
  injection e1 with e2 e3 e4
  subst e2 e4
  exact ⟨a, c, he, hs, fun _ k o hk => ⟨fun hO => by have := h.lt k hO; have := hbase k o hk; omega, hbase k o hk⟩, hB⟩
theorem fat_byte {D : FS} {room : Nat} (h : Good D room) (s : List UInt8) : ∀ c ∈ ((fat D s).getD Fl.zero).bs, c < 256 := by
  cases hf : fat D s with
  | none => intro c hc; cases hc
  | some f => exact (h.at_ hf).2.2.1
end Go.Proofs.Ytohiheohndmccaa

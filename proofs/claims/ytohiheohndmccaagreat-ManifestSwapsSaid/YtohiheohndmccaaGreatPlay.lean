/- Both disks, side by side, in one state. -/
import Derived.Test.YtohiheohndmccaaGreatRdV
import Derived.Test.YtohiheohndmccaaGreatOpL
import Derived.Test.YtohiheohndmccaaGreatDkS
namespace Go.Proofs.YtohiheohndmccaaGreat
open Go.RowKit Go.Sort
open Go.Maps

/-- Another thing's calls leave the program's disk. -/
theorem DK.but {w0 w w' : World} {dp : Nat} {t : St} {O P : Nat → Prop} (h : DK w0 w dp t O) (hb : But P w w') (hno : ∀ k, O k → ¬ P k) (hP : ∀ k, P k → w0.heap.size ≤ k) : DK w0 w' dp t O :=
  ⟨Dsk.but h.is hb hno, h.base, h.below.trans (hb.below h.below.size hP)⟩
structure DP (w0 w : World) (dp rp : Nat) (t u : St) (O P : Nat → Prop) : Prop where
  dk : DK w0 w dp t O
  rk : RK w0 w rp u P
  no : ∀ k, O k → ¬ P k
section
variable {w0 w w' : World} {dp rp : Nat} {t u t' : St} {O P : Nat → Prop}
theorem DP.on (h : DP w0 w dp rp t u O P) (hb : Below w.heap.size w w') : DP w0 w' dp rp t u O P := ⟨h.dk.on hb, h.rk.on hb, h.no⟩
theorem DP.one (h : DP w0 w dp rp t u O P) (hm : Mv w0 w dp O t' w') : ∃ O', DP w0 w' dp rp t' u O' P ∧ But O w w' := by
  obtain ⟨O', h1, h2, h3⟩ := hm.far
  exact ⟨O', ⟨h1, h.rk.but h2 (fun k hp ho => h.no k ho hp) h.dk.base, fun k ho hp => h3 k (h.rk.lt k hp) (fun h4 => h.no k h4 hp) ho⟩, h2⟩
theorem DP.two (h : DP w0 w dp rp t u O P) (hm : Mr w0 w rp P t' w') : ∃ P', DP w0 w' dp rp t t' O P' ∧ But P w w' := by
  obtain ⟨P', h1, h2, h3⟩ := hm.far
  exact ⟨P', ⟨h.dk.but h2 h.no h.rk.base, h1, fun k ho hp => h3 k (h.dk.lt k ho) (h.no k ho) hp⟩, h2⟩
theorem DP.do_ (h : DP w0 w dp rp t u O P) (op : OpV) {B : Nat} (ho : OpIn w B op) (hB : B ≤ w0.heap.size) :
    Calls Tryz.prog 8 #[.pointer (some ⟨dp, 0, none⟩), opVal op] w fun e w' => e = .returned (.int .i64 (t.do_ op).1) ∧ ∃ O', DP w0 w' dp rp (t.do_ op).2 u O' P ∧ Below w0.heap.size w w' :=
  (do_any h.dk op ho hB).mono fun e w' hd => by
    obtain ⟨h1, h2⟩ := hd
    obtain ⟨O', h3, h4⟩ := h.one h2
    exact ⟨h1, O', h3, h4.below h.dk.below.size h.dk.base⟩
theorem DP.plain (h : DP w0 w dp rp t u O P) (op : OpV) {B : Nat} (ho : OpIn w B op) (hB : B ≤ w0.heap.size) :
    Calls Tryz.prog 9 #[.pointer (some ⟨rp, 0, none⟩), opVal op] w fun e w' => e = .returned (.int .i64 (u.do_ op).1) ∧ ∃ P', DP w0 w' dp rp t (u.do_ op).2 O P' ∧ Below w0.heap.size w w' :=
  (plain_any h.rk op ho hB).mono fun e w' hd => by
    obtain ⟨h1, h2⟩ := hd
    obtain ⟨P', h3, h4⟩ := h.two h2
    exact ⟨h1, P', h3, h4.below h.rk.below.size h.rk.base⟩
/-- What both tell of a name, of all names, of all bytes. -/
structure Tell (w0 : World) (dp rp : Nat) (u : St) (nm : ByteArray) (BS : List Nat) (IS : Bool) (L : List (List UInt8)) (T S : Nat) : Prop where
  byte : ∀ c ∈ BS, c < 256
  read1 : ∀ x O P, DP w0 x dp rp u u O P → Calls Tryz.prog 49 #[.pointer (some ⟨dp, 0, none⟩), .string nm] x fun e x' => ∃ a c, e = .returned (.tuple #[.slice a BS.length c, .bool IS]) ∧ Sl x' x'.heap.size a BS.length c BS ∧ DP w0 x' dp rp u u O P ∧ Below x.heap.size x x'
  read2 : ∀ x O P, DP w0 x dp rp u u O P → Calls Tryz.prog 47 #[.pointer (some ⟨rp, 0, none⟩), .string nm] x fun e x' => ∃ a c, e = .returned (.tuple #[.slice a BS.length c, .bool IS]) ∧ Sl x' x'.heap.size a BS.length c BS ∧ DP w0 x' dp rp u u O P ∧ Below x.heap.size x x'
  list1 : ∀ x O P, DP w0 x dp rp u u O P → Calls Tryz.prog 16 #[.pointer (some ⟨dp, 0, none⟩)] x fun e x' => ∃ a c, e = .returned (.slice a L.length c) ∧ Row x' x'.heap.size a L.length c 1 (strC L) ∧ DP w0 x' dp rp u u O P ∧ Below x.heap.size x x'
  list2 : ∀ x O P, DP w0 x dp rp u u O P → Calls Tryz.prog 17 #[.pointer (some ⟨rp, 0, none⟩)] x fun e x' => ∃ a c, e = .returned (.slice a L.length c) ∧ Row x' x'.heap.size a L.length c 1 (strC L) ∧ DP w0 x' dp rp u u O P ∧ Below x.heap.size x x'
  used1 : ∀ x O P, DP w0 x dp rp u u O P → Calls Tryz.prog 18 #[.pointer (some ⟨dp, 0, none⟩)] x fun e x' => e = .returned (.int .i64 (T : Int)) ∧ DP w0 x' dp rp u u O P ∧ Below x.heap.size x x'
  used2 : ∀ x O P, DP w0 x dp rp u u O P → Calls Tryz.prog 19 #[.pointer (some ⟨rp, 0, none⟩)] x fun e x' => e = .returned (.int .i64 (T : Int)) ∧ DP w0 x' dp rp u u O P ∧ Below x.heap.size x x'
  synced1 : ∀ x O P, DP w0 x dp rp u u O P → Calls Tryz.prog 20 #[.pointer (some ⟨dp, 0, none⟩), .string nm] x fun e x' => e = .returned (.int .i64 (S : Int)) ∧ DP w0 x' dp rp u u O P ∧ Below x.heap.size x x'
  synced2 : ∀ x O P, DP w0 x dp rp u u O P → Calls Tryz.prog 21 #[.pointer (some ⟨rp, 0, none⟩), .string nm] x fun e x' => e = .returned (.int .i64 (S : Int)) ∧ DP w0 x' dp rp u u O P ∧ Below x.heap.size x x'
theorem DP.tells (h : DP w0 w dp rp t t O P) (nm : ByteArray) (hnm : nm.size ≤ maxLen) : ∃ BS IS L T S, Tell w0 dp rp t nm BS IS L T S := by
  refine ⟨((fat t.D nm.data.toList).getD Fl.zero).bs, (fat t.D nm.data.toList).isSome, strKeys t.D, tot t.D, ((fat t.D nm.data.toList).getD Fl.zero).l, fat_byte h.dk.good _, fun x O P k => ?_, fun x O P k => ?_, fun x O P k => ?_, fun x O P k => ?_, fun x O P k => ?_, fun x O P k => ?_, fun x O P k => ?_, fun x O P k => ?_⟩
  · refine (k.dk.read nm hnm).mono fun e x' hN => ?_
    obtain ⟨a, c, h1, h2, _, h4⟩ := NewBytes.out k.dk hN (fat_byte k.dk.good _)
    exact ⟨a, c, h1, h2, k.on h4, h4⟩
  · refine (k.rk.read nm).mono fun e x' hN => ?_
    obtain ⟨a, c, h1, h2, _, h4⟩ := NewBytes.out k.dk hN (fat_byte k.dk.good _)
    exact ⟨a, c, h1, h2, k.on h4, h4⟩
  · refine k.dk.list.mono fun e x' hN => ?_
    obtain ⟨g, c, h1, h2, _, h4⟩ := hN.out
    exact ⟨_, c, h1, h2, k.on h4, h4⟩
  · refine k.rk.list.mono fun e x' ⟨a, c, h1, h2, h4⟩ => ?_
    exact ⟨a, c, h1, h2, k.on h4, h4⟩
  · exact k.dk.used.mono fun e x' ⟨h1, h4⟩ => ⟨h1, k.on h4, h4⟩
  · exact k.rk.used.mono fun e x' ⟨h1, h4⟩ => by subst h4; exact ⟨h1, k, Below.refl _ _⟩
  · exact (k.dk.synced nm hnm).mono fun e x' ⟨h1, h4⟩ => by subst h4; exact ⟨h1, k, Below.refl _ _⟩
  · exact (k.rk.synced nm).mono fun e x' ⟨h1, h4⟩ => by subst h4; exact ⟨h1, k, Below.refl _ _⟩
end
end Go.Proofs.YtohiheohndmccaaGreat

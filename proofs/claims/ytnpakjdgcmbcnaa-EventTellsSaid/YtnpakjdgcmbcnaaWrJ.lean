/- The head of the statements on wire: its fixed answers. -/
import Derived.Test.YtnpakjdgcmbcnaaWrI
namespace Go.Proofs.Ytnpakjdgcmbcnaa
open Go.RowKit
open Wir

/-- Bytes that lie nowhere in O. -/
def Away (w : World) (O : Nat → Prop) (a : Option Addr) (n c : Nat) (bs : List Nat) : Prop := Sl w w.heap.size a n c bs ∧ (0 < n → ∀ b o, a = some ⟨b, o, none⟩ → ¬ O b)
theorem Sl.in_ {w : World} {B : Nat} {a : Option Addr} {n c : Nat} {bs : List Nat} (h : Sl w B a n c bs) (hn : 0 < n) {b o : Nat} (e : a = some ⟨b, o, none⟩) : b < B := by
  obtain ⟨b', o', e', hlt, _⟩ := h.at_ hn
  rw [e] at e'; injection e' with e'; injection e' with e'; omega
theorem Away.but {w w' : World} {O : Nat → Prop} {a : Option Addr} {n c : Nat} {bs : List Nat} (h : Away w O a n c bs) (hb : But O w w') : Away w' O a n c bs :=
  ⟨h.1.same_ hb.size (fun hp b o e => hb.block b (h.1.in_ hp e) (h.2 hp b o e)), h.2⟩
theorem Away.below {w w' : World} {O : Nat → Prop} {a : Option Addr} {n c : Nat} {bs : List Nat} (h : Away w O a n c bs) (hb : Below w.heap.size w w') : Away w' O a n c bs := h.but (But.of_below hb)
theorem Away.old {w : World} {O : Nat → Prop} {a : Option Addr} {n c : Nat} {bs : List Nat} (h : Sl w w.heap.size a n c bs) {w' : World} (hb : Below w.heap.size w w') (hO : ∀ k, O k → w.heap.size ≤ k) : Away w' O a n c bs :=
  ⟨(h.below hb (Nat.le_refl _)).more hb.size, fun hp b o e ho => by have := h.in_ hp e; have := hO b ho; omega⟩
theorem Away.new {w w' : World} {O : Nat → Prop} {a : Option Addr} {n c : Nat} {bs : List Nat} (h : Sl w' w'.heap.size a n c bs) (hn : ∀ b o, a = some ⟨b, o, none⟩ → w.heap.size ≤ b) (hO : ∀ k, O k → k < w.heap.size) : Away w' O a n c bs :=
  ⟨h, fun _ b o e ho => by have := hn b o e; have := hO b ho; omega⟩
theorem But.under {w w1 w2 : World} {O : Nat → Prop} (h : Below w.heap.size w w1) (hb : But O w1 w2) (hO : ∀ k, O k → w.heap.size ≤ k) : Below w.heap.size w w2 := h.trans (hb.below h.size hO)

/-- A writer behind all that was there in w0. -/
def WK (T : TypeId) (w0 w : World) (p : Nat) (bs : List Nat) : Prop := ∃ O, Wtr T w p bs O ∧ (∀ k, O k → w0.heap.size ≤ k) ∧ Below w0.heap.size w0 w
theorem WK.new (T : TypeId) (w : World) : WK T w (w.alloc (.cells #[.slice none 0 0] T)) w.heap.size [] := ⟨_, Wtr.new w, fun k hk => by subst hk; exact Nat.le_refl _, (Below.refl _ _).alloc (Nat.le_refl _) _⟩
theorem WMv.wk {T : TypeId} {w0 w w' : World} {p : Nat} {bs : List Nat} {O : Nat → Prop} (h : WMv T w p bs O w') (hO : ∀ k, O k → w0.heap.size ≤ k) (hb : Below w0.heap.size w0 w) : WK T w0 w' p bs := by
  obtain ⟨O', h1, h2, h3⟩ := h
  exact ⟨O', h1, fun k hk => by rcases h3 k hk with h4 | h4; exact hO k h4; exact Nat.le_trans hb.size h4, hb.trans (h2.below hb.size hO)⟩
theorem WK.on {T : TypeId} {w0 w w' : World} {p : Nat} {bs : List Nat} (h : WK T w0 w p bs) (hb : Below w.heap.size w w') : WK T w0 w' p bs := by
  obtain ⟨O, h1, h2, h3⟩ := h
  exact ⟨O, h1.below hb, h2, h3.trans (hb.mono h3.size)⟩
theorem WK.num {T : TypeId} {w0 w : World} {p : Nat} {bs : List Nat} (h : WK T w0 w p bs) (n : Int) (h1 : -9223372036854775808 ≤ n) (h2 : n ≤ 9223372036854775807) (hlen : bs.length ≤ 1000000000) :
    Calls Try.prog 103 #[.pointer (some ⟨p, 0, none⟩), .int .i64 n] w fun e w' => e = .returned (.tuple #[]) ∧ WK T w0 w' p (bs ++ dg (cnt n)) := by
  obtain ⟨O, k1, k2, k3⟩ := h
  exact (wnum_any k1 n h1 h2 hlen).mono fun e w' h => ⟨h.1, h.2.wk k2 k3⟩
theorem WK.text {T : TypeId} {w0 w : World} {p : Nat} {bs : List Nat} (h : WK T w0 w p bs) (a : Option Addr) (len cap : Nat) (t : List Nat) (hs : Sl w0 w0.heap.size a len cap t) (hlen : bs.length ≤ 1000000000) (hl : len ≤ 1000000000) :
    Calls Try.prog 104 #[.pointer (some ⟨p, 0, none⟩), .slice a len cap] w fun e w' => e = .returned (.tuple #[]) ∧ WK T w0 w' p (bs ++ (dg (cnt (len : Int)) ++ t)) := by
  obtain ⟨O, k1, k2, k3⟩ := h
  exact (wtext_any k1 a len cap t ((hs.below k3 (Nat.le_refl _)).more k3.size) (fun hp b o e ho => by have := hs.in_ hp e; have := k2 b ho; omega) hlen hl).mono fun e w' h => ⟨h.1, h.2.wk k2 k3⟩
theorem WK.textNew {T : TypeId} {w0 w w1 : World} {p : Nat} {bs : List Nat} (h : WK T w0 w p bs) (hb : Below w.heap.size w w1) (a : Option Addr) (len cap : Nat) (t : List Nat) (hs : Sl w1 w1.heap.size a len cap t) (hnew : 0 < len → ∀ b o, a = some ⟨b, o, none⟩ → w.heap.size ≤ b)
    (hlen : bs.length ≤ 1000000000) (hl : len ≤ 1000000000) :
    Calls Try.prog 104 #[.pointer (some ⟨p, 0, none⟩), .slice a len cap] w1 fun e w' => e = .returned (.tuple #[]) ∧ WK T w0 w' p (bs ++ (dg (cnt (len : Int)) ++ t)) := by
  obtain ⟨O, k1, k2, k3⟩ := h
  exact (wtext_any (k1.below hb) a len cap t hs (fun hp b o e ho => by have := hnew hp b o e; have := k1.lt b ho; omega) hlen hl).mono fun e w' h => ⟨h.1, h.2.wk k2 (k3.trans (hb.mono k3.size))⟩
theorem WK.bytes {T : TypeId} {w0 w : World} {p : Nat} {bs : List Nat} (h : WK T w0 w p bs) (hlen : bs.length ≤ 2000000000) :
    Calls Try.prog 42 #[.pointer (some ⟨p, 0, none⟩)] w fun e w' => ∃ a c, e = .returned (.slice a bs.length c) ∧ Sl w' w'.heap.size a bs.length c bs ∧ WK T w0 w' p bs ∧ Below w.heap.size w w' ∧ ∀ b o, a = some ⟨b, o, none⟩ → w.heap.size ≤ b := by
  obtain ⟨O, k1, k2, k3⟩ := h
  exact (wbytes_any k1 hlen).mono fun e w' ⟨a, c, h1, h2, h3, h4⟩ => ⟨a, c, h1, h2, ⟨O, k1.below h3, k2, k3.trans (h3.mono k3.size)⟩, h3, h4⟩

theorem WK.bytesOwn {T : TypeId} {w0 w : World} {p : Nat} {bs : List Nat} (h : WK T w0 w p bs) (hlen : bs.length ≤ 2000000000) :
    Calls Try.prog 42 #[.pointer (some ⟨p, 0, none⟩)] w fun e w' => ∃ v, e = .returned v ∧ OwnB w' w.heap.size 5 v bs ∧ WK T w0 w' p bs ∧ Below w.heap.size w w' := by
  obtain ⟨O, k1, k2, k3⟩ := h
  exact (wbytes_own k1 hlen).mono fun e w' ⟨v, h1, h2, h3⟩ => ⟨v, h1, h2, ⟨O, k1.below h3, k2, k3.trans (h3.mono k3.size)⟩, h3⟩

def B16 : List Nat := [1, 216, 4, 4, 97, 98, 255, 255, 255, 255, 255, 255, 255, 255, 255, 1]
theorem dg_m1 : dg (cnt (-1)) = [1] := by rw [show cnt (-1) = 1 from by decide]; simp [dg]
theorem dg_300 : dg (cnt 300) = [216, 4] := by rw [show cnt 300 = 600 from by decide]; simp [dg]
theorem dg_2 : dg (cnt ((2 : Nat) : Int)) = [4] := by rw [show cnt ((2 : Nat) : Int) = 4 from by decide]; simp [dg]
theorem dg_min : dg (cnt (-9223372036854775808)) = [255, 255, 255, 255, 255, 255, 255, 255, 255, 1] := by rw [show cnt (-9223372036854775808) = 18446744073709551615 from by decide]; simp [dg]
theorem hd_r1 : (⟨B16, 0, 0⟩ : RS).num = (-1, ⟨B16, 1, 0⟩) := by kernel_rfl
theorem hd_r2 : (⟨B16, 1, 0⟩ : RS).int 300 300 = (300, ⟨B16, 3, 0⟩) := by kernel_rfl
theorem hd_r3 : (⟨B16, 3, 0⟩ : RS).text 2 = ([97, 98], ⟨B16, 6, 0⟩) := by kernel_rfl
theorem hd_r4 : (⟨B16, 6, 0⟩ : RS).num = (-9223372036854775808, ⟨B16, 16, 0⟩) := by kernel_rfl
theorem hd_r5 : (⟨B16, 16, 0⟩ : RS).end_ = 0 := by kernel_rfl
theorem hd_r6 : (⟨B16, 16, 0⟩ : RS).num = (0, ⟨B16, 16, 13⟩) := by kernel_rfl
theorem hd_r7 : (⟨B16, 16, 13⟩ : RS).end_ = 13 := by kernel_rfl
theorem hd_s1 : (⟨[128, 0], 0, 0⟩ : RS).num = (0, ⟨[128, 0], 0, 12⟩) := by kernel_rfl
theorem hd_s2 : (⟨[128, 0], 0, 12⟩ : RS).end_ = 12 := by kernel_rfl
theorem B16_byte : ∀ c ∈ B16, c < 256 := by decide
end Go.Proofs.Ytnpakjdgcmbcnaa

/- How many replicas there may be, as plain mathematics. -/
import Derived.Test.YtcfehddnccdejaaEvA
namespace Go.Proofs.Ytcfehddnccdejaa
set_option linter.unusedSimpArgs false
set_option linter.unusedVariables false
namespace Lim
open Evn

/-- A hold: how many, when they grew, did they. -/
abbrev Hd := Int × Int × Bool
def bnd (c : Cf) (n : Int) : Int := min (max n c.min) c.max
def into (c : Cf) (h : Hd) : Hd := (bnd c h.1, h.2)
def near (c : Cf) (g want : Int) : Int := bnd c (min (max want (g - c.rate)) (g + c.rate))
def held (c : Cf) (g : Hd) (want now : Int) : Int := if near c g.1 want < g.1 ∧ g.2.2 = true ∧ now - g.2.1 < c.stable then g.1 else near c g.1 want
def goes (c : Cf) (g : Hd) (want now : Int) : Hd := if g.1 < held c g want now then (held c g want now, now, true) else (held c g want now, g.2)
def nxt (c : Cf) (h : Hd) (want now : Int) : Hd := goes c (into c h) want now
/-- What a configuration that may be tells here. -/
structure COk (c : Cf) : Prop where
  m1 : 1 ≤ c.min
  m2 : c.min ≤ c.max
  m3 : c.max ≤ 1000
  r1 : 1 ≤ c.rate
  r2 : c.rate ≤ 1000
  s1 : 0 ≤ c.stable
  s2 : c.stable ≤ 1099511627776
theorem COk.of {c : Cf} (h : confR c = true) : COk c := by
  unfold confR at h
  have := of_decide_eq_true h
  exact ⟨this.1.1, this.1.2, this.2.1.2, this.2.2.1.1, this.2.2.1.2, this.2.2.2.1.1, this.2.2.2.1.2⟩
theorem bnd_le {c : Cf} (hc : COk c) (n : Int) : c.min ≤ bnd c n ∧ bnd c n ≤ c.max := by
  have := hc.m2
  unfold bnd; omega
theorem bnd_id {c : Cf} {n : Int} (h1 : c.min ≤ n) (h2 : n ≤ c.max) : bnd c n = n := by unfold bnd; omega
theorem into_in {c : Cf} (hc : COk c) (h : Hd) : c.min ≤ (into c h).1 ∧ (into c h).1 ≤ c.max := bnd_le hc h.1
theorem into_id {c : Cf} {h : Hd} (h1 : c.min ≤ h.1) (h2 : h.1 ≤ c.max) : into c h = h := by unfold into; rw [bnd_id h1 h2]
theorem nxt_id {c : Cf} {h : Hd} (h1 : c.min ≤ h.1) (h2 : h.1 ≤ c.max) (w t : Int) : nxt c h w t = goes c h w t := by unfold nxt; rw [into_id h1 h2]
theorem near_in {c : Cf} (hc : COk c) (g w : Int) : c.min ≤ near c g w ∧ near c g w ≤ c.max := bnd_le hc _
theorem near_rate {c : Cf} (hc : COk c) {g : Int} (h1 : c.min ≤ g) (h2 : g ≤ c.max) (w : Int) : near c g w ≤ g + c.rate ∧ g - c.rate ≤ near c g w := by
  have := hc.r1
  unfold near bnd; omega
theorem held_in {c : Cf} (hc : COk c) {g : Hd} (h1 : c.min ≤ g.1) (h2 : g.1 ≤ c.max) (w t : Int) : c.min ≤ held c g w t ∧ held c g w t ≤ c.max ∧ held c g w t ≤ g.1 + c.rate ∧ g.1 - c.rate ≤ held c g w t := by
  have a := near_in hc g.1 w
  have b := near_rate hc h1 h2 w
  have := hc.r1
  unfold held
  split <;> omega
theorem goes_is {c : Cf} {g : Hd} {w t N : Int} (hN : near c g.1 w = N) : goes c g w t = if g.1 < (if N < g.1 ∧ g.2.2 = true ∧ t - g.2.1 < c.stable then g.1 else N) then ((if N < g.1 ∧ g.2.2 = true ∧ t - g.2.1 < c.stable then g.1 else N), t, true) else ((if N < g.1 ∧ g.2.2 = true ∧ t - g.2.1 < c.stable then g.1 else N), g.2) := by
  subst hN; rfl
theorem to_one (c : Cf) (g : Hd) (w t : Int) : (goes c g w t).1 = held c g w t := by unfold goes; split <;> rfl
theorem to_in {c : Cf} (hc : COk c) {g : Hd} (h1 : c.min ≤ g.1) (h2 : g.1 ≤ c.max) (w t : Int) : c.min ≤ (goes c g w t).1 ∧ (goes c g w t).1 ≤ c.max ∧ (goes c g w t).1 ≤ g.1 + c.rate ∧ g.1 - c.rate ≤ (goes c g w t).1 := by
  rw [to_one]; exact held_in hc h1 h2 w t
theorem nxt_in {c : Cf} (hc : COk c) (h : Hd) (w t : Int) : c.min ≤ (nxt c h w t).1 ∧ (nxt c h w t).1 ≤ c.max :=
  have k := into_in hc h
  have := to_in hc k.1 k.2 w t
  ⟨this.1, this.2.1⟩
/-- It grows, just now; else the rest is as it was. -/
theorem to_grew {c : Cf} {g : Hd} {w t : Int} (h : g.1 < (goes c g w t).1) : goes c g w t = ((goes c g w t).1, t, true) := by
  rw [to_one] at h
  unfold goes; rw [if_pos h]
theorem to_rest {c : Cf} {g : Hd} {w t : Int} (h : ¬ g.1 < (goes c g w t).1) : (goes c g w t).2 = g.2 := by
  rw [to_one] at h
  unfold goes; rw [if_neg h]
/-- Nothing shrinks for Stable behind a growth. -/
theorem to_still {c : Cf} {g : Hd} {w t : Int} (h : (goes c g w t).1 < g.1) : ¬ (g.2.2 = true ∧ t - g.2.1 < c.stable) := by
  rw [to_one] at h
  unfold held at h
  intro k
  by_cases e : near c g.1 w < g.1
  · rw [if_pos ⟨e, k.1, k.2⟩] at h; omega
  · rw [if_neg (fun x => e x.1)] at h; exact e h
theorem near_less {c : Cf} (hc : COk c) {g w : Int} (h1 : c.min ≤ g) (h2 : g ≤ c.max) : near c g w < g ↔ bnd c w < g := by
  have := hc.r1
  unfold near bnd; omega
theorem near_more {c : Cf} (hc : COk c) {g w : Int} (h1 : c.min ≤ g) (h2 : g ≤ c.max) : g < near c g w ↔ g < bnd c w := by
  have := hc.r1
  unfold near bnd; omega
/-- What is wanted, where it may be, is held. -/
theorem to_near {c : Cf} (hc : COk c) {g : Hd} {w t : Int} (h1 : c.min ≤ g.1) (h2 : g.1 ≤ c.max) (hn : bnd c w - g.1 ≤ c.rate ∧ g.1 - bnd c w ≤ c.rate) (hs : ¬ (bnd c w < g.1 ∧ g.2.2 = true ∧ t - g.2.1 < c.stable)) : (goes c g w t).1 = bnd c w := by
  have := hc.r1
  have e := near_less hc h1 h2 (w := w)
  rw [to_one]
  unfold held
  rw [if_neg (fun x => hs ⟨e.1 x.1, x.2⟩)]
  unfold near bnd at *; omega
theorem to_stays {c : Cf} (hc : COk c) {g : Hd} {w t : Int} (h1 : c.min ≤ g.1) (h2 : g.1 ≤ c.max) (hs : bnd c w < g.1 ∧ g.2.2 = true ∧ t - g.2.1 < c.stable) : goes c g w t = g := by
  have e : held c g w t = g.1 := by unfold held; rw [if_pos ⟨(near_less hc h1 h2).2 hs.1, hs.2⟩]
  unfold goes; rw [e, if_neg (by omega)]
theorem to_between {c : Cf} (hc : COk c) {g : Hd} {w t : Int} (h1 : c.min ≤ g.1) (h2 : g.1 ≤ c.max) : min (bnd c w) g.1 ≤ (goes c g w t).1 ∧ (goes c g w t).1 ≤ max (bnd c w) g.1 := by
  have := hc.r1
  rw [to_one]
  unfold held
  split
  · omega
  · unfold near bnd; omega
/-- More that are wanted are never fewer. -/
theorem to_mono {c : Cf} (hc : COk c) {g : Hd} {v w t : Int} (h1 : c.min ≤ g.1) (h2 : g.1 ≤ c.max) (h : v ≤ w) : (goes c g v t).1 ≤ (goes c g w t).1 := by
  have m : near c g.1 v ≤ near c g.1 w := by unfold near bnd; omega
  rw [to_one, to_one]
  unfold held
  by_cases s : g.2.2 = true ∧ t - g.2.1 < c.stable
  · by_cases a : near c g.1 v < g.1
    · rw [if_pos ⟨a, s⟩]
      by_cases b : near c g.1 w < g.1
      · rw [if_pos ⟨b, s⟩]; exact Int.le_refl _
      · rw [if_neg (fun x => b x.1)]; omega
    · rw [if_neg (fun x => a x.1), if_neg (fun x => a (Int.lt_of_le_of_lt m x.1))]; exact m
  · rw [if_neg (fun x => s x.2), if_neg (fun x => s x.2)]; exact m
theorem to_eq {c : Cf} {g : Hd} {v w t : Int} (h : (goes c g v t).1 = (goes c g w t).1) : goes c g v t = goes c g w t := by
  rw [to_one, to_one] at h
  unfold goes; rw [h]
/-- It comes nearer where nothing holds it, and stays. -/
theorem to_moves {c : Cf} (hc : COk c) {g : Hd} {w t : Int} (h1 : c.min ≤ g.1) (h2 : g.1 ≤ c.max) (hn : g.1 ≠ bnd c w) (ht : c.stable ≤ t - g.2.1) :
    (g.1 < bnd c w → g.1 < (goes c g w t).1 ∧ (goes c g w t).1 ≤ bnd c w) ∧ (bnd c w < g.1 → (goes c g w t).1 < g.1 ∧ bnd c w ≤ (goes c g w t).1) := by
  have b := to_between hc (g := g) (w := w) (t := t) h1 h2
  have e : (goes c g w t).1 = near c g.1 w := by rw [to_one]; unfold held; rw [if_neg (by omega)]
  have l := near_less hc h1 h2 (w := w)
  have m := near_more hc h1 h2 (w := w)
  rw [e] at b ⊢
  omega
theorem to_there {c : Cf} (hc : COk c) {g : Hd} {w t : Int} (h1 : c.min ≤ g.1) (h2 : g.1 ≤ c.max) (hn : g.1 = bnd c w) : goes c g w t = g := by
  have l := near_less hc h1 h2 (w := w)
  have m := near_more hc h1 h2 (w := w)
  have e : held c g w t = g.1 := by unfold held; rw [if_neg (fun x => by have := l.1 x.1; omega)]; omega
  unfold goes; rw [e, if_neg (by omega)]
theorem to_last {c : Cf} {g : Hd} {w t : Int} (h : g.2.1 ≤ t) : (goes c g w t).2.1 ≤ t := by
  unfold goes; split
  · exact Int.le_refl _
  · exact h
end Lim
end Go.Proofs.Ytcfehddnccdejaa

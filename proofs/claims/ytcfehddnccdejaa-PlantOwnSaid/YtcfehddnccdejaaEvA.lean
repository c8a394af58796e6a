/- Events as plain mathematics: what is right, their bytes, and what bytes are. -/
import Derived.Test.YtcfehddnccdejaaWrA
namespace Go.Proofs.Ytcfehddnccdejaa
set_option linter.unusedSimpArgs false
set_option linter.unusedVariables false
namespace Evn
open Wir

structure Pl where
  kind : Int
  target : Int
  bands : List (Int × Int)
  kp : Int
  ki : Int
  kd : Int
  period : Int
  slots : List (Int × Int)
structure Cf where
  min : Int
  max : Int
  rate : Int
  stable : Int
  cap : Int
  delay : Int
  slack : Int
  window : Int
  margin : Int
  ceil : Int
  probe : Int
  breach : Int
structure Ev where
  kind : Int
  util : Int
  demand : Int
  t : Int
  id : Int
  n : Int
  pol : Pl
  conf : Cf
  body : List Nat
def zeroPl : Pl := ⟨0, 0, [], 0, 0, 0, 0, []⟩
def zeroCf : Cf := ⟨0, 0, 0, 0, 0, 0, 0, 0, 0, 0, 0, 0⟩
def ofKind (k : Int) : Ev := ⟨k, 0, 0, 0, 0, 0, zeroPl, zeroCf, []⟩
/-- As 64 bits hold it. -/
def I64 (n : Int) : Prop := -9223372036854775808 ≤ n ∧ n ≤ 9223372036854775807
def All64 (l : List Int) : Prop := ∀ n ∈ l, I64 n
def pairs (l : List (Int × Int)) : List Int := l.flatMap fun x => [x.1, x.2]

/-! What is right. -/
def bandsR (least : Int) : List (Int × Int) → Bool
  | [] => true
  | x :: r => decide (least ≤ x.1 ∧ x.1 ≤ 1000000000) && (decide (-1000 ≤ x.2 ∧ x.2 ≤ 1000) && bandsR (x.1 + 1) r)
def bandsOk (l : List (Int × Int)) : Bool := decide (1 ≤ l.length ∧ l.length ≤ 8) && bandsR 0 l
def slotsR (period least : Int) : List (Int × Int) → Bool
  | [] => true
  | x :: r => decide (least ≤ x.1 ∧ x.1 ≤ period - 1) && (decide (0 ≤ x.2 ∧ x.2 ≤ 1000) && slotsR period (x.1 + 1) r)
def slotsOk (l : List (Int × Int)) (period : Int) : Bool := decide (1 ≤ l.length ∧ l.length ≤ 8) && (decide ((l.getD 0 (1, 0)).1 = 0) && slotsR period 0 l)
def zeroR (p : Pl) : Bool := decide (p.kind = 0 ∧ p.target = 0 ∧ p.kp = 0 ∧ p.ki = 0 ∧ p.kd = 0 ∧ p.period = 0 ∧ p.bands.length = 0 ∧ p.slots.length = 0)
def fixR (n : Int) : Bool := decide (-1000000000 ≤ n ∧ n ≤ 1000000000)
def polR (p : Pl) : Bool :=
  if p.kind = 1 then decide (1 ≤ p.target ∧ p.target ≤ 1000000000) && zeroR { p with kind := 0, target := 0 }
  else if p.kind = 2 then bandsOk p.bands && zeroR { p with kind := 0, bands := [] }
  else if p.kind = 3 then (decide (1 ≤ p.target ∧ p.target ≤ 1000000000) && (fixR p.kp && (fixR p.ki && fixR p.kd))) && zeroR { p with kind := 0, target := 0, kp := 0, ki := 0, kd := 0 }
  else if p.kind = 4 then (decide (1 ≤ p.period ∧ p.period ≤ 1099511627776) && slotsOk p.slots p.period) && zeroR { p with kind := 0, period := 0, slots := [] }
  else false
def confR (c : Cf) : Bool :=
  decide ((1 ≤ c.min ∧ c.min ≤ c.max) ∧ (1 ≤ c.max ∧ c.max ≤ 1000) ∧ (1 ≤ c.rate ∧ c.rate ≤ 1000) ∧ (0 ≤ c.stable ∧ c.stable ≤ 1099511627776) ∧ (1 ≤ c.cap ∧ c.cap ≤ 1000000) ∧ (0 ≤ c.delay ∧ c.delay ≤ 8) ∧
    (0 ≤ c.slack ∧ c.slack ≤ 1000000000) ∧ (1 ≤ c.window ∧ c.window ≤ 32) ∧ (0 ≤ c.margin ∧ c.margin ≤ 1000000000) ∧ (0 ≤ c.ceil ∧ c.ceil ≤ 32) ∧ (1 ≤ c.probe ∧ c.probe ≤ 32) ∧ (0 ≤ c.breach ∧ c.breach ≤ 32))
def cfZero (c : Cf) : Bool := decide (c.min = 0 ∧ c.max = 0 ∧ c.rate = 0 ∧ c.stable = 0 ∧ c.cap = 0 ∧ c.delay = 0 ∧ c.slack = 0 ∧ c.window = 0 ∧ c.margin = 0 ∧ c.ceil = 0 ∧ c.probe = 0 ∧ c.breach = 0)
def placeR (id : Int) : Bool := decide (0 ≤ id ∧ id ≤ 3)
def boundedR (e : Ev) : Bool :=
  if e.kind = 1 ∨ e.kind = 2 then true
  else if e.kind = 3 then placeR e.id && (polR e.pol || (decide (e.id ≠ 0) && zeroR e.pol))
  else if e.kind = 4 then confR e.conf
  else if e.kind = 5 then decide (0 ≤ e.t ∧ e.t ≤ 1099511627776) && decide (0 ≤ e.n ∧ e.n ≤ 1000)
  else if e.kind = 6 ∨ e.kind = 7 then placeR e.id
  else if e.kind = 8 then decide (e.body.length ≤ 1700)
  else false
/-- What its kind has is made zero. -/
def clearE (e : Ev) : Ev :=
  if e.kind = 1 then { e with util := 0, demand := 0 }
  else if e.kind = 2 then { e with t := 0 }
  else if e.kind = 3 then { e with id := 0, pol := zeroPl }
  else if e.kind = 4 then { e with conf := zeroCf }
  else if e.kind = 5 then { e with t := 0, n := 0 }
  else if e.kind = 6 ∨ e.kind = 7 then { e with id := 0 }
  else if e.kind = 8 then { e with body := [] }
  else e
def nothingR (e : Ev) : Bool := decide (e.util = 0 ∧ e.demand = 0 ∧ e.t = 0) && (decide (e.id = 0 ∧ e.n = 0) && (zeroR e.pol && (cfZero e.conf && decide (e.body.length = 0))))
def rightR (e : Ev) : Bool := boundedR e && nothingR (clearE e)

/-! Bytes. -/
def nb (ks : List Int) : List Nat := ks.flatMap fun k => dg (cnt k)
def polN (p : Pl) : List Int := [p.kind, p.target, (p.bands.length : Int)] ++ (pairs p.bands ++ ([p.kp, p.ki, p.kd, p.period, (p.slots.length : Int)] ++ pairs p.slots))
def confN (c : Cf) : List Int := [c.min, c.max, c.rate, c.stable, c.cap, c.delay, c.slack, c.window, c.margin, c.ceil, c.probe, c.breach]
def code (e : Ev) : List Nat :=
  if e.kind = 1 then nb [e.util, e.demand]
  else if e.kind = 2 then nb [e.t]
  else if e.kind = 3 then nb (e.id :: polN e.pol)
  else if e.kind = 4 then nb (confN e.conf)
  else if e.kind = 5 then nb [e.t, e.n]
  else if e.kind = 6 ∨ e.kind = 7 then nb [e.id]
  else if e.kind = 8 then dg (cnt (e.body.length : Int)) ++ e.body
  else []
def putR (e : Ev) : List Nat := if rightR e = true then (if 1800 < (code e).length then [] else code e) else []

/-! What bytes are. -/
def rowsR : Nat → RS → List (Int × Int) × RS
  | 0, s => ([], s)
  | n + 1, s => ((s.num.1, s.num.2.num.1) :: (rowsR n s.num.2.num.2).1, (rowsR n s.num.2.num.2).2)
def getRows (s : RS) : List (Int × Int) × RS := rowsR (s.int 0 8).1.toNat (s.int 0 8).2
def getPl (s0 : RS) : Pl × RS :=
  let k := s0.num
  let t := k.2.num
  let b := getRows t.2
  let p := b.2.num
  let i := p.2.num
  let d := i.2.num
  let q := d.2.num
  let l := getRows q.2
  (⟨k.1, t.1, b.1, p.1, i.1, d.1, q.1, l.1⟩, l.2)
def getCf (s0 : RS) : Cf × RS :=
  let a := s0.num
  let b := a.2.num
  let c := b.2.num
  let d := c.2.num
  let e := d.2.num
  let f := e.2.num
  let g := f.2.num
  let h := g.2.num
  let i := h.2.num
  let j := i.2.num
  let k := j.2.num
  let l := k.2.num
  (⟨a.1, b.1, c.1, d.1, e.1, f.1, g.1, h.1, i.1, j.1, k.1, l.1⟩, l.2)
def getEv (kind : Int) (s : RS) : Ev × RS :=
  if kind = 1 then ({ ofKind kind with util := s.num.1, demand := s.num.2.num.1 }, s.num.2.num.2)
  else if kind = 2 then ({ ofKind kind with t := s.num.1 }, s.num.2)
  else if kind = 3 then ({ ofKind kind with id := s.num.1, pol := (getPl s.num.2).1 }, (getPl s.num.2).2)
  else if kind = 4 then ({ ofKind kind with conf := (getCf s).1 }, (getCf s).2)
  else if kind = 5 then ({ ofKind kind with t := s.num.1, n := s.num.2.num.1 }, s.num.2.num.2)
  else if kind = 6 ∨ kind = 7 then ({ ofKind kind with id := s.num.1 }, s.num.2)
  else if kind = 8 then ({ ofKind kind with body := (s.text 1700).1 }, (s.text 1700).2)
  else (ofKind kind, s)
def getR (kind : Int) (bs : List Nat) : Ev × Nat :=
  if (getEv kind ⟨bs, 0, 0⟩).2.end_ ≠ 0 then (ofKind 0, (getEv kind ⟨bs, 0, 0⟩).2.end_)
  else if rightR (getEv kind ⟨bs, 0, 0⟩).1 = true then ((getEv kind ⟨bs, 0, 0⟩).1, 0) else (ofKind 0, 12)

/-! Alike. -/
def plSame (a b : Pl) : Bool := decide (a.kind = b.kind ∧ a.target = b.target ∧ a.kp = b.kp ∧ a.ki = b.ki ∧ a.kd = b.kd ∧ a.period = b.period ∧ a.bands = b.bands ∧ a.slots = b.slots)
def cfSame (a b : Cf) : Bool := decide (confN a = confN b)
def evSame (a b : Ev) : Bool := decide (a.kind = b.kind ∧ a.util = b.util ∧ a.demand = b.demand ∧ a.t = b.t ∧ a.id = b.id ∧ a.n = b.n) && (plSame a.pol b.pol && (cfSame a.conf b.conf && decide (a.body = b.body)))
theorem plSame_iff {a b : Pl} : plSame a b = true ↔ a = b := by
  obtain ⟨a1, a2, a3, a4, a5, a6, a7, a8⟩ := a
  obtain ⟨b1, b2, b3, b4, b5, b6, b7, b8⟩ := b
  simp only [plSame, decide_eq_true_eq, Pl.mk.injEq]
  constructor
  · rintro ⟨h1, h2, h3, h4, h5, h6, h7, h8⟩; exact ⟨h1, h2, h7, h3, h4, h5, h6, h8⟩
  · rintro ⟨h1, h2, h7, h3, h4, h5, h6, h8⟩; exact ⟨h1, h2, h3, h4, h5, h6, h7, h8⟩
theorem cfSame_iff {a b : Cf} : cfSame a b = true ↔ a = b := by
  obtain ⟨a1, a2, a3, a4, a5, a6, a7, a8, a9, a10, a11, a12⟩ := a
  obtain ⟨b1, b2, b3, b4, b5, b6, b7, b8, b9, b10, b11, b12⟩ := b
  simp [cfSame, confN]
theorem evSame_iff {a b : Ev} : evSame a b = true ↔ a = b := by
  obtain ⟨a1, a2, a3, a4, a5, a6, a7, a8, a9⟩ := a
  obtain ⟨b1, b2, b3, b4, b5, b6, b7, b8, b9⟩ := b
  simp only [evSame, Bool.and_eq_true, decide_eq_true_eq, plSame_iff, cfSame_iff, Ev.mk.injEq]
  constructor
  · rintro ⟨⟨h1, h2, h3, h4, h5, h6⟩, h7, h8, h9⟩; exact ⟨h1, h2, h3, h4, h5, h6, h7, h8, h9⟩
  · rintro ⟨h1, h2, h3, h4, h5, h6, h7, h8, h9⟩; exact ⟨⟨h1, h2, h3, h4, h5, h6⟩, h7, h8, h9⟩
theorem cfZero_iff {c : Cf} : cfZero c = true ↔ c = zeroCf := by
  obtain ⟨a1, a2, a3, a4, a5, a6, a7, a8, a9, a10, a11, a12⟩ := c
  simp [cfZero, zeroCf]
theorem zeroR_iff {p : Pl} : zeroR p = true ↔ p = zeroPl := by
  obtain ⟨a1, a2, a3, a4, a5, a6, a7, a8⟩ := p
  simp only [zeroR, zeroPl, decide_eq_true_eq, Pl.mk.injEq, List.length_eq_zero_iff]
  constructor
  · rintro ⟨h1, h2, h3, h4, h5, h6, h7, h8⟩; exact ⟨h1, h2, h7, h3, h4, h5, h6, h8⟩
  · rintro ⟨h1, h2, h7, h3, h4, h5, h6, h8⟩; exact ⟨h1, h2, h3, h4, h5, h6, h7, h8⟩
theorem rowsR_snoc : ∀ (n : Nat) (s : RS), rowsR (n + 1) s = ((rowsR n s).1 ++ [((rowsR n s).2.num.1, (rowsR n s).2.num.2.num.1)], (rowsR n s).2.num.2.num.2)
  | 0, _ => rfl
  | n + 1, s => by
    have h := rowsR_snoc n s.num.2.num.2
    rw [rowsR, h]
    simp [rowsR]
theorem nb_append (a b : List Int) : nb (a ++ b) = nb a ++ nb b := by simp [nb]
theorem nb_cons (x : Int) (b : List Int) : nb (x :: b) = dg (cnt x) ++ nb b := by simp [nb]
theorem nb_byte (ks : List Int) : ∀ c ∈ nb ks, c < 256 := by
  intro c hc
  obtain ⟨k, _, h⟩ := List.mem_flatMap.1 hc
  exact dg_byte _ c h
theorem nb_len (ks : List Int) (h : All64 ks) : (nb ks).length ≤ 10 * ks.length := by
  induction ks with
  | nil => simp [nb]
  | cons k ks ih =>
    have h1 := ih (fun x hx => h x (by simp [hx]))
    have h2 := dg_le (cnt_lt (h k (by simp)).1 (h k (by simp)).2)
    simp only [nb, List.flatMap_cons, List.length_append, List.length_cons] at *
    omega
end Evn
end Go.Proofs.Ytcfehddnccdejaa

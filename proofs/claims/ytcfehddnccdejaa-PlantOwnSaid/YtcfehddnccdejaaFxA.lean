/- Numbers by thousandths, as plain mathematics: what each call of fixed tells, and the laws of sums, products and quotients. -/
import Derived.Test.YtcfehddnccdejaaProg
namespace Go.Proofs.Ytcfehddnccdejaa
set_option linter.unusedSimpArgs false
set_option linter.unusedVariables false
namespace Fx

def sat (n : Int) : Int := if n < -1000000000 then -1000000000 else if 1000000000 < n then 1000000000 else n
def bys (n : Int) (f : Int → Int) : Int := if n < 0 then -(f (-n)) else f n
def by2 (g : Int → Int → Int) (a b : Int) : Int := bys a (fun x => bys b (fun y => sat (g x y)))
def mulS (a b : Int) : Int := a * b / 1000
def divS (a b : Int) : Int := if b = 0 then a * 1000000000 else a * 1000 / b
def nearS (a : Int) : Int := (a + 500) / 1000
def add (a b : Int) : Int := sat (sat a + sat b)
def sub (a b : Int) : Int := sat (sat a - sat b)
def mul (a b : Int) : Int := by2 mulS (sat a) (sat b)
def div (a b : Int) : Int := by2 divS (sat a) (sat b)
def clamp (n l m : Int) : Int := if sat n < sat l then sat l else if sat m < sat n then sat m else sat n
def up (n : Int) : Int := -(-(sat n) / 1000)
def near (n : Int) : Int := bys (sat n) nearS
/-- What is cut off, towards 0. -/
def cut (p : Int) : Int := bys p (fun x => x / 1000)

theorem sat_le (n : Int) : -1000000000 ≤ sat n ∧ sat n ≤ 1000000000 := by unfold sat; split <;> (try split) <;> omega
theorem sat_id {n : Int} (h1 : -1000000000 ≤ n) (h2 : n ≤ 1000000000) : sat n = n := by unfold sat; rw [if_neg (by omega), if_neg (by omega)]
theorem sat_sat (n : Int) : sat (sat n) = sat n := sat_id (sat_le n).1 (sat_le n).2
theorem sat_neg (n : Int) : sat (-n) = -sat n := by unfold sat; split <;> (try split) <;> (try split) <;> (try split) <;> omega
theorem sat_mono {a b : Int} (h : a ≤ b) : sat a ≤ sat b := by unfold sat; split <;> (try split) <;> (try split) <;> (try split) <;> omega
theorem sat_zero : sat 0 = 0 := by decide
theorem sat_nonneg {n : Int} (h : 0 ≤ n) : 0 ≤ sat n := by have := sat_mono h; rwa [sat_zero] at this
theorem bys_neg (n : Int) (f : Int → Int) (h0 : f 0 = 0) : bys (-n) f = -bys n f := by
  unfold bys
  by_cases h1 : n < 0
  · rw [if_pos h1, if_neg (by omega)]; omega
  · by_cases h2 : n = 0
    · subst h2; rw [if_neg (by omega)]; simp [h0]
    · rw [if_neg h1, if_pos (by omega), Int.neg_neg]
theorem bys_mono {a b : Int} (f : Int → Int) (h : a ≤ b) (hf : ∀ x y, 0 ≤ x → x ≤ y → f x ≤ f y) (h0 : ∀ x, 0 ≤ x → 0 ≤ f x) : bys a f ≤ bys b f := by
  unfold bys
  by_cases h1 : a < 0
  · rw [if_pos h1]
    by_cases h2 : b < 0
    · rw [if_pos h2]; have := hf (-b) (-a) (by omega) (by omega); omega
    · rw [if_neg h2]; have := h0 (-a) (by omega); have := h0 b (by omega); omega
  · rw [if_neg h1, if_neg (by omega)]
    exact hf a b (by omega) h
theorem bys_le {n M : Int} {f : Int → Int} (h : ∀ x, 0 ≤ x → -M ≤ f x ∧ f x ≤ M) : -M ≤ bys n f ∧ bys n f ≤ M := by
  unfold bys
  split
  · have := h (-n) (by omega); omega
  · have := h n (by omega); omega
theorem by2_le (g : Int → Int → Int) (a b : Int) : -1000000000 ≤ by2 g a b ∧ by2 g a b ≤ 1000000000 :=
  bys_le fun _ _ => bys_le fun _ _ => sat_le _

theorem cut_neg (p : Int) : cut (-p) = -cut p := bys_neg p _ (by decide)
theorem cut_mono {a b : Int} (h : a ≤ b) : cut a ≤ cut b := bys_mono _ h (fun x y _ h => by omega) (fun x h => by omega)
theorem cut_thousand (x : Int) : cut (x * 1000) = x := by unfold cut bys; dsimp only; split <;> omega
theorem cut_tdiv (p : Int) : Int.tdiv p 1000 = cut p := by
  unfold cut bys
  dsimp only
  split
  · rename_i h
    have : p = -(-p) := by omega
    rw [this, Int.neg_tdiv, Int.tdiv_eq_ediv_of_nonneg (by omega), Int.neg_neg]
  · exact Int.tdiv_eq_ediv_of_nonneg (by omega)
theorem by2_mulS (x y : Int) : by2 mulS x y = sat (cut (x * y)) := by
  unfold by2 bys mulS cut bys
  dsimp only
  by_cases hx : x < 0 <;> by_cases hy : y < 0
  · have hp : 0 ≤ x * y := by have := Int.mul_nonneg (a := -x) (b := -y) (by omega) (by omega); rwa [Int.neg_mul_neg] at this
    rw [if_pos hx, if_pos hy, Int.neg_mul_neg, if_neg (by omega), Int.neg_neg]
  · have hp : 0 ≤ -(x * y) := by have := Int.mul_nonneg (a := -x) (b := y) (by omega) (by omega); rwa [Int.neg_mul] at this
    rw [if_pos hx, if_neg hy, Int.neg_mul]
    generalize x * y = p at *
    by_cases h0 : p < 0
    · rw [if_pos h0, sat_neg]
    · have : p = 0 := by omega
      subst this; decide
  · have hp : 0 ≤ -(x * y) := by have := Int.mul_nonneg (a := x) (b := -y) (by omega) (by omega); rwa [Int.mul_neg] at this
    rw [if_neg hx, if_pos hy, Int.mul_neg]
    generalize x * y = p at *
    by_cases h0 : p < 0
    · rw [if_pos h0, sat_neg]
    · have : p = 0 := by omega
      subst this; decide
  · have hp : 0 ≤ x * y := Int.mul_nonneg (by omega) (by omega)
    rw [if_neg hx, if_neg hy, if_neg (by omega)]
theorem mul_cut (a b : Int) : mul a b = sat (cut (sat a * sat b)) := by2_mulS _ _
theorem mul_comm (a b : Int) : mul a b = mul b a := by rw [mul_cut, mul_cut, Int.mul_comm]
theorem mul_neg (a b : Int) : mul (-a) b = -mul a b := by rw [mul_cut, mul_cut, sat_neg, Int.neg_mul, cut_neg, sat_neg]
theorem mul_thousand {x : Int} (h1 : -1000000000 ≤ x) (h2 : x ≤ 1000000000) : mul x 1000 = x := by
  rw [mul_cut, sat_id h1 h2, show sat 1000 = 1000 from by decide, cut_thousand, sat_id h1 h2]
theorem mul_mono {x y z : Int} (h : x ≤ y) (hz : 0 ≤ z) : mul x z ≤ mul y z := by
  rw [mul_cut, mul_cut]
  exact sat_mono (cut_mono (Int.mul_le_mul_of_nonneg_right (sat_mono h) (sat_nonneg hz)))
theorem mul_anti {x y z : Int} (h : x ≤ y) (hz : z ≤ 0) : mul y z ≤ mul x z := by
  have h1 := mul_mono h (z := -z) (by omega)
  rw [mul_comm, mul_neg, mul_comm y, mul_neg, mul_comm z, mul_comm z] at h1
  omega
theorem mul_le (a b : Int) : -1000000000 ≤ mul a b ∧ mul a b ≤ 1000000000 := by2_le _ _ _
theorem div_le (a b : Int) : -1000000000 ≤ div a b ∧ div a b ≤ 1000000000 := by2_le _ _ _

theorem divS_zero (y : Int) : divS 0 y = 0 := by unfold divS; split <;> simp
theorem by2_zero (y : Int) : (fun x => bys y (fun y => sat (divS x y))) 0 = 0 := by
  simp only [divS_zero, sat_zero]; unfold bys; split <;> rfl
theorem div_neg (a b : Int) : div (-a) b = -div a b := by
  unfold div by2
  rw [sat_neg]
  exact bys_neg _ _ (by2_zero _)
theorem div_thousand {x : Int} (h1 : -1000000000 ≤ x) (h2 : x ≤ 1000000000) : div x 1000 = x := by
  unfold div by2
  rw [sat_id h1 h2, show sat 1000 = 1000 from by decide]
  unfold bys divS sat
  simp only [show ¬ ((1000 : Int) < 0) from by decide, show ¬ ((1000 : Int) = 0) from by decide, if_false]
  split <;> (try split) <;> (try split) <;> omega
theorem divS_mono {x y z : Int} (hx : 0 ≤ x) (h : x ≤ y) (hz : 0 ≤ z) : divS x z ≤ divS y z := by
  unfold divS
  split
  · omega
  · exact Int.ediv_le_ediv (by omega) (by omega)
theorem divS_nonneg {x z : Int} (hx : 0 ≤ x) (hz : 0 ≤ z) : 0 ≤ divS x z := by
  unfold divS
  split
  · omega
  · exact Int.ediv_nonneg (by omega) hz
theorem div_mono {x y z : Int} (h : x ≤ y) (hz : 0 ≤ z) : div x z ≤ div y z := by
  have hs := sat_nonneg hz
  unfold div by2
  refine bys_mono _ (sat_mono h) (fun p q hp hpq => ?_) (fun p hp => ?_)
  · unfold bys
    dsimp only
    rw [if_neg (by omega), if_neg (by omega)]
    exact sat_mono (divS_mono hp hpq hs)
  · unfold bys
    dsimp only
    rw [if_neg (by omega)]
    exact sat_nonneg (divS_nonneg hp hs)
theorem near_neg (n : Int) : near (-n) = -near n := by
  unfold near
  rw [sat_neg]
  exact bys_neg _ _ (by decide)
theorem near_mono {a b : Int} (h : a ≤ b) : near a ≤ near b :=
  bys_mono _ (sat_mono h) (fun x y _ h => by unfold nearS; omega) (fun x h => by unfold nearS; omega)
theorem up_mono {a b : Int} (h : a ≤ b) : up a ≤ up b := by have := sat_mono h; unfold up; omega
theorem near_le (n : Int) : -1000000 ≤ near n ∧ near n ≤ 1000000 := by have := sat_le n; unfold near bys nearS; split <;> omega
theorem up_le (n : Int) : -1000000 ≤ up n ∧ up n ≤ 1000000 := by have := sat_le n; unfold up; omega
theorem clamp_le (n l m : Int) : -1000000000 ≤ clamp n l m ∧ clamp n l m ≤ 1000000000 := by
  have := sat_le n; have := sat_le l; have := sat_le m; unfold clamp; split <;> (try split) <;> omega
theorem add_le (a b : Int) : -1000000000 ≤ add a b ∧ add a b ≤ 1000000000 := sat_le _
theorem sub_le (a b : Int) : -1000000000 ≤ sub a b ∧ sub a b ≤ 1000000000 := sat_le _

/-- A product of what is right is far from the bounds of 64 bits. -/
theorem prod_le {x y : Int} {M N : Nat} (hx : -(M : Int) ≤ x ∧ x ≤ M) (hy : -(N : Int) ≤ y ∧ y ≤ N) : -((M * N : Nat) : Int) ≤ x * y ∧ x * y ≤ ((M * N : Nat) : Int) := by
  have h1 : x.natAbs ≤ M := by omega
  have h2 : y.natAbs ≤ N := by omega
  have h3 : (x * y).natAbs ≤ M * N := by rw [Int.natAbs_mul]; exact Nat.mul_le_mul h1 h2
  omega

/-- What was divided, and is multiplied again. -/
theorem div_back {x y : Int} (hx1 : -1000000000 ≤ x) (hx2 : x ≤ 1000000000) (hy1 : -1000000000 ≤ y) (hy2 : y ≤ 1000000000) (hy : y ≠ 0) (h1 : -1000000000 < div x y) (h2 : div x y < 1000000000) :
    1000 * x - div x y * y < max y (-y) ∧ -(max y (-y)) < 1000 * x - div x y * y ∧ (1000 * x - div x y * y = 0 ∨ (0 < 1000 * x - div x y * y ↔ 0 < x)) := by
  have key : ∀ X Y : Int, 0 ≤ X → 0 < Y → 0 ≤ X * 1000 - (X * 1000 / Y) * Y ∧ X * 1000 - (X * 1000 / Y) * Y < Y := by
    intro X Y hX hY
    have e1 := Int.emod_add_mul_ediv (X * 1000) Y
    have e2 := Int.emod_nonneg (X * 1000) (b := Y) (by omega)
    have e3 := Int.emod_lt_of_pos (X * 1000) hY
    rw [Int.mul_comm Y] at e1
    omega
  have hq : div x y = bys x (fun a => bys y (fun b => sat (a * 1000 / b))) := by
    unfold div by2
    rw [sat_id hx1 hx2, sat_id hy1 hy2]
    unfold bys divS
    by_cases h : y < 0
    · simp only [if_pos h, show ¬ (-y = 0) from by omega, if_false]
    · simp only [if_neg h, hy, if_false]
  rw [hq] at h1 h2 ⊢
  clear hq
  have hsat : ∀ k : Int, 0 ≤ k → sat k < 1000000000 → sat k = k := by
    intro k hk h; unfold sat at *; split at h <;> (try split at h) <;> (try split) <;> (try split) <;> omega
  unfold bys at *
  dsimp only at *
  by_cases hx : x < 0 <;> by_cases hyn : y < 0
  · have k := key (-x) (-y) (by omega) (by omega)
    have q0 := Int.ediv_nonneg (a := -x * 1000) (b := -y) (by omega) (by omega)
    rw [if_pos hx, if_pos hyn] at h1 h2 ⊢
    have hs := hsat _ q0 (by omega)
    rw [hs] at h1 h2 ⊢
    rw [Int.neg_neg]
    rw [Int.mul_neg] at k
    generalize (-x * 1000 / -y) * y = m at *
    omega
  · have k := key (-x) y (by omega) (by omega)
    have q0 := Int.ediv_nonneg (a := -x * 1000) (b := y) (by omega) (by omega)
    rw [if_pos hx, if_neg hyn] at h1 h2 ⊢
    have hs := hsat _ q0 (by omega)
    rw [hs] at h1 h2 ⊢
    rw [Int.neg_mul]
    generalize (-x * 1000 / y) * y = m at *
    omega
  · have k := key x (-y) (by omega) (by omega)
    have q0 := Int.ediv_nonneg (a := x * 1000) (b := -y) (by omega) (by omega)
    rw [if_neg hx, if_pos hyn] at h1 h2 ⊢
    have hs := hsat _ q0 (by omega)
    rw [hs] at h1 h2 ⊢
    rw [Int.mul_neg] at k
    rw [Int.neg_mul]
    have hz : x = 0 → (x * 1000 / -y) * y = 0 := by intro h; rw [h]; simp
    generalize (x * 1000 / -y) * y = m at *
    omega
  · have k := key x y (by omega) (by omega)
    have q0 := Int.ediv_nonneg (a := x * 1000) (b := y) (by omega) (by omega)
    rw [if_neg hx, if_neg hyn] at h1 h2 ⊢
    have hs := hsat _ q0 (by omega)
    rw [hs] at h1 h2 ⊢
    have hz : x = 0 → (x * 1000 / y) * y = 0 := by intro h; rw [h]; simp
    generalize (x * 1000 / y) * y = m at *
    omega
/-- The document's quotient. -/
theorem div_tdiv (a b : Int) (hb : sat b ≠ 0) : sat (Int.tdiv (1000 * sat a) (sat b)) = div a b := by
  have ha := sat_le a
  unfold div by2 bys divS
  dsimp only
  generalize sat a = x at *
  generalize sat b = y at *
  have t : ∀ X Y : Int, 0 ≤ X → Int.tdiv (X * 1000) Y = X * 1000 / Y := fun X Y h => Int.tdiv_eq_ediv_of_nonneg (by omega)
  by_cases hx : x < 0 <;> by_cases hy : y < 0
  · rw [if_pos hx, if_pos hy, if_neg (by omega), Int.neg_neg, ← t (-x) (-y) (by omega), show -x * 1000 = -(1000 * x) from by omega, Int.neg_tdiv_neg]
  · rw [if_pos hx, if_neg hy, if_neg hb, ← t (-x) y (by omega), show -x * 1000 = -(1000 * x) from by omega, Int.neg_tdiv, sat_neg, Int.neg_neg]
  · rw [if_neg hx, if_pos hy, if_neg (by omega), ← t x (-y) (by omega), show x * 1000 = 1000 * x from by omega, Int.tdiv_neg, sat_neg, Int.neg_neg]
  · rw [if_neg hx, if_neg hy, if_neg hb, ← t x y (by omega), show x * 1000 = 1000 * x from by omega]
theorem div_none (a b : Int) (hb : sat b = 0) : div a b = if 0 < sat a then 1000000000 else if sat a < 0 then -1000000000 else 0 := by
  have ha := sat_le a
  unfold div by2 bys divS
  dsimp only
  rw [hb]
  generalize sat a = x at *
  simp only [show ¬ ((0 : Int) < 0) from by decide, if_true, if_false]
  unfold sat
  split <;> (try split) <;> (try split) <;> (try split) <;> omega
end Fx
end Go.Proofs.Ytcfehddnccdejaa

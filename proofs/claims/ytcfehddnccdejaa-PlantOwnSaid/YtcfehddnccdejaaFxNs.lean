/- Contracts of the program's fixed, Mul and what it is made of: what each call tells; memory is made, none is changed. -/
import Derived.Test.YtcfehddnccdejaaFxS
namespace Go.Proofs.Ytcfehddnccdejaa
set_option linter.unusedSimpArgs false
set_option linter.unusedVariables false
open Go.RowKit
open Fx

section
variable (F : FuncId) (g : Int → Int) (p q : Value)
set_option maxHeartbeats 800000 in
/-- bySize, of a function value with two captured boxes. -/
theorem bySize_any (n : Int) (h1 : -1000000000 ≤ n) (h2 : n ≤ 1000000000) (w : World)
    (hc : ∀ m x, (callFunc F #[.int .i64 m, p, q]).run Try.prog x = .ok (.enter F #[.int .i64 m, p, q]) x)
    (hcall : ∀ m, 0 ≤ m → m ≤ 1000000000 → Calls Try.prog F #[.int .i64 m, p, q] w fun e w' => e = .returned (.int .i64 (g m)) ∧ Below w.heap.size w w')
    (hg : ∀ m, 0 ≤ m → m ≤ 1000000000 → -1000000000 ≤ g m ∧ g m ≤ 1000000000) :
    Calls Try.prog 43 #[.int .i64 n, .func (.func F) #[] #[p, q]] w fun e w' => e = .returned (.int .i64 (bys n g)) ∧ Below w.heap.size w w' := by
  by_cases h : n < 0
  · have hb : Hid (bys n g = -(g (-n))) := if_pos h
    have hr := hg (-n) (by omega) (by omega)
    have hC := Lib.hid (hcall (-n) (by omega) (by omega))
    have c1 := fun x => hc (-n) x
    clear hcall hg hc
    go_enter Try.func43, Try.ntmps43
    go_wp2_with fail
    refine hC.out.mono ?_
    rintro e w1 ⟨rfl, b1⟩
    have B1 := Lib.hid b1
    generalize g (-n) = v at *
    go_wp2
    go_ret
    exact ⟨by rw [hb.out]; rfl, B1.out⟩
  · have hb : Hid (bys n g = g n) := if_neg h
    have hC := Lib.hid (hcall n (by omega) (by omega))
    have c1 := fun x => hc n x
    have h' : 0 ≤ n := by omega
    clear hcall hg hc
    go_enter Try.func43, Try.ntmps43
    go_wp2_with fail
    refine hC.out.mono ?_
    rintro e w1 ⟨rfl, b1⟩
    have B1 := Lib.hid b1
    go_wp2
    go_ret
    exact ⟨by rw [hb.out]; rfl, B1.out⟩
end
/-- What is done with two sizes. -/
structure Does (F : FuncId) (g : Int → Int → Int) : Prop where
  enter : ∀ a b x, (callFunc F #[.int .i64 a, .int .i64 b]).run Try.prog x = .ok (.enter F #[.int .i64 a, .int .i64 b]) x
  call : ∀ a b x, 0 ≤ a → a ≤ 1000000000 → 0 ≤ b → b ≤ 1000000000 → Calls Try.prog F #[.int .i64 a, .int .i64 b] x fun e w' => e = .returned (.int .i64 (g a b)) ∧ w' = x
set_option maxHeartbeats 800000 in
theorem inner_any {F : FuncId} {g : Int → Int → Int} (D : Does F g) (pd pa : Nat) (a b : Int) (w : World) (ca : w.cell? ⟨pa, 0, none⟩ = some (.int .i64 a)) (cd : w.cell? ⟨pd, 0, none⟩ = some (.func (.func F) #[] #[]))
    (h1 : 0 ≤ a) (h2 : a ≤ 1000000000) (h3 : 0 ≤ b) (h4 : b ≤ 1000000000) :
    Calls Try.prog 45 #[.int .i64 b, .pointer (some ⟨pd, 0, none⟩), .pointer (some ⟨pa, 0, none⟩)] w fun e w' => e = .returned (.int .i64 (sat (g a b))) ∧ Below w.heap.size w w' := by
  have hC := Lib.hid (fun x => D.call a b x h1 h2 h3 h4)
  have c1 := fun x => D.enter a b x
  clear D h1 h2 h3 h4
  go_enter Try.func45, Try.ntmps45
  go_wp2_with fail
  refine (hC.out _).mono ?_
  rintro e w1 ⟨rfl, rfl⟩
  go_wp2_with fail
  refine (sat_any (g a b) _).mono ?_
  rintro e w1 ⟨rfl, rfl⟩
  go_wp2
  go_ret
  exact ⟨rfl, Below.refl _ _⟩
set_option maxHeartbeats 800000 in
theorem outer_any {F : FuncId} {g : Int → Int → Int} (D : Does F g) (pb pd : Nat) (a b : Int) (w : World) (cb : w.cell? ⟨pb, 0, none⟩ = some (.int .i64 b)) (cd : w.cell? ⟨pd, 0, none⟩ = some (.func (.func F) #[] #[]))
    (h1 : 0 ≤ a) (h2 : a ≤ 1000000000) (h3 : -1000000000 ≤ b) (h4 : b ≤ 1000000000) :
    Calls Try.prog 44 #[.int .i64 a, .pointer (some ⟨pb, 0, none⟩), .pointer (some ⟨pd, 0, none⟩)] w fun e w' => e = .returned (.int .i64 (bys b (fun y => sat (g a y)))) ∧ Below w.heap.size w w' := by
  have hmf : ∀ (fn : Fn) (first cap : Array Value) (w : World), (Instr.makeFunc fn first cap).run Try.prog w = .ok (.func fn first cap) w := fun _ _ _ _ => rfl
  have hB := Lib.hid ((Below.refl w.heap.size w).alloc (Nat.le_refl _) (.cells #[.int .i64 a] 2))
  have kd : (w.alloc (.cells #[.int .i64 a] 2)).cell? ⟨pd, 0, none⟩ = some (.func (.func F) #[] #[]) := (hB.out.cell (p := ⟨pd, 0, none⟩) (block_lt_of_cell cd)).trans cd
  have kb : (w.alloc (.cells #[.int .i64 a] 2)).cell? ⟨pb, 0, none⟩ = some (.int .i64 b) := (hB.out.cell (p := ⟨pb, 0, none⟩) (block_lt_of_cell cb)).trans cb
  have ka : (w.alloc (.cells #[.int .i64 a] 2)).cell? ⟨w.heap.size, 0, none⟩ = some (.int .i64 a) := cell_of_one (heap_alloc_new _ _)
  have hC := Lib.hid (bySize_any 45 (fun y => sat (g a y)) (.pointer (some ⟨pd, 0, none⟩)) (.pointer (some ⟨w.heap.size, 0, none⟩)) b h3 h4 (w.alloc (.cells #[.int .i64 a] 2)) (fun m x => by kernel_rfl)
    (fun m hm1 hm2 => inner_any D pd w.heap.size a m _ ka kd h1 h2 hm1 hm2) (fun m _ _ => sat_le _))
  clear D ka kd h1 h2 h3 h4 cd
  go_enter Try.func44, Try.ntmps44
  go_wp2_with fail
  refine hC.out.mono ?_
  rintro e w1 ⟨rfl, b1⟩
  have B1 := Lib.hid (hB.out.trans (b1.mono hB.out.size))
  clear hC b1 hB kb
  go_wp2
  go_ret
  exact ⟨rfl, B1.out⟩
set_option maxHeartbeats 800000 in
theorem bySizes_any {F : FuncId} {g : Int → Int → Int} (D : Does F g) (a b : Int) (w : World) (h1 : -1000000000 ≤ a) (h2 : a ≤ 1000000000) (h3 : -1000000000 ≤ b) (h4 : b ≤ 1000000000) :
    Calls Try.prog 40 #[.int .i64 a, .int .i64 b, .func (.func F) #[] #[]] w fun e w' => e = .returned (.int .i64 (by2 g a b)) ∧ Below w.heap.size w w' := by
  have hmf : ∀ (fn : Fn) (first cap : Array Value) (w : World), (Instr.makeFunc fn first cap).run Try.prog w = .ok (.func fn first cap) w := fun _ _ _ _ => rfl
  obtain ⟨w2, hw2⟩ : ∃ w2, w2 = (w.alloc (.cells #[.int .i64 b] 2)).alloc (.cells #[.func (.func F) #[] #[]] 52) := ⟨_, rfl⟩
  have hB : Below w.heap.size w w2 := by rw [hw2]; exact ((Below.refl w.heap.size w).alloc (Nat.le_refl _) _).alloc (by simp) _
  have kb : w2.cell? ⟨w.heap.size, 0, none⟩ = some (.int .i64 b) := by
    rw [hw2, World.cell?_alloc_past _ _ _ (by simp)]
    exact cell_of_one (heap_alloc_new _ _)
  have kd : w2.cell? ⟨w.heap.size + 1, 0, none⟩ = some (.func (.func F) #[] #[]) := by
    rw [hw2, show w.heap.size + 1 = (w.alloc (.cells #[.int .i64 b] 2)).heap.size from by simp]
    exact cell_of_one (heap_alloc_new _ _)
  have hC := Lib.hid (bySize_any 44 (fun x => bys b (fun y => sat (g x y))) (.pointer (some ⟨w.heap.size, 0, none⟩)) (.pointer (some ⟨w.heap.size + 1, 0, none⟩)) a h1 h2 w2 (fun m x => by kernel_rfl)
    (fun m hm1 hm2 => outer_any D _ _ m b _ kb kd hm1 hm2 h3 h4) (fun m _ _ => bys_le fun _ _ => sat_le _))
  have HB := Lib.hid hB
  rw [hw2] at hC
  have W2 := Lib.hid hw2
  clear D kb kd h1 h2 h3 h4 hB hw2
  go_enter Try.func40, Try.ntmps40
  go_wp2_with fail
  refine hC.out.mono ?_
  rintro e w1 ⟨rfl, b1⟩
  rw [← W2.out] at b1
  have B1 := Lib.hid (HB.out.trans (b1.mono HB.out.size))
  clear hC b1 HB
  go_wp2
  go_ret
  exact ⟨rfl, B1.out⟩
end Go.Proofs.Ytcfehddnccdejaa

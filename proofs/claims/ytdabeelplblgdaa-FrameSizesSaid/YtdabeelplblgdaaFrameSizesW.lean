/- FrameSizes: the walk. -/
import Derived.Test.YtdabeelplblgdaaFrH
import Derived.Test.YtdabeelplblgdaaFrS
namespace Go.Proofs.Ytdabeelplblgdaa
open Go.RowKit
open Crc Frm

def frCells (f : Fr) (a : Option Addr) (cap : Nat) : Array Value := #[.int .i64 f.ty, .int .i64 f.seq, .slice a f.body.length cap]
/-- Two frames that were boxed. -/
structure Two (w w' : World) (f g : Fr) (a b : Option Addr) (ca cb : Nat) : Prop where
  below : Below w.heap.size w w'
  one : w'.heap[w.heap.size]? = some (.cells (frCells f a ca) 24 (0, 0))
  two : w'.heap[w.heap.size + 1]? = some (.cells (frCells g b cb) 24 (0, 0))
theorem Two.on {w w1 w2 : World} {f g : Fr} {a b : Option Addr} {ca cb : Nat} (h : Two w w1 f g a b ca cb) (hb : Below w1.heap.size w1 w2) : Two w w2 f g a b ca cb :=
  ⟨h.below.trans (hb.mono h.below.size), (hb.block _ (lt_of_heap h.one)).trans h.one, (hb.block _ (lt_of_heap h.two)).trans h.two⟩
theorem Two.start (w : World) (f g : Fr) (a b : Option Addr) (ca cb : Nat) : Two w ((w.alloc (.cells (frCells f a ca) 24)).alloc (.cells (frCells g b cb) 24)) f g a b ca cb :=
  ⟨((Below.refl _ _).alloc (Nat.le_refl _) _).alloc (by simp) _, heap_alloc2_old _ _ _, heap_alloc2_new _ _ _⟩
/-- The cells, for a walk. -/
theorem Two.cells {w w' : World} {f g : Fr} {a b : Option Addr} {ca cb : Nat} (h : Two w w' f g a b ca cb) :
    w'.cell? ⟨w.heap.size, 0, none⟩ = some (.int .i64 f.ty) ∧ w'.cell? ⟨w.heap.size, 1, none⟩ = some (.int .i64 f.seq) ∧ w'.cell? ⟨w.heap.size, 2, none⟩ = some (.slice a f.body.length ca) ∧
    w'.cell? ⟨w.heap.size + 1, 0, none⟩ = some (.int .i64 g.ty) ∧ w'.cell? ⟨w.heap.size + 1, 1, none⟩ = some (.int .i64 g.seq) ∧ w'.cell? ⟨w.heap.size + 1, 2, none⟩ = some (.slice b g.body.length cb) :=
  ⟨(cell_of_row w' _ 0 _ _ _ h.one).trans rfl, (cell_of_row w' _ 1 _ _ _ h.one).trans rfl, (cell_of_row w' _ 2 _ _ _ h.one).trans rfl,
    (cell_of_row w' _ 0 _ _ _ h.two).trans rfl, (cell_of_row w' _ 1 _ _ _ h.two).trans rfl, (cell_of_row w' _ 2 _ _ _ h.two).trans rfl⟩

theorem min2_any (x y : Nat) (w : World) :
    (Builtin.min_ #[3, 3] 3 #[.int .i64 (x : Int), .int .i64 (y : Int)]).run Try.prog w = .ok (.int .i64 ((min x y : Nat) : Int)) w := by
  have e1 : (if (y : Int) < (x : Int) then (y : Int) else (x : Int)) = ((min x y : Nat) : Int) := by split <;> omega
  simp only [Builtin.min_, List.foldlM, Builtin.min2, Sem.run_bind, Sem.run_pure, Result.andThen_ok]
  rw [e1]

set_option maxHeartbeats 3200000 in
theorem frameSizes_in (f g : Fr) (a : Option Addr) (ca : Nat) (b : Option Addr) (cb : Nat) (w : World) (hs : Sl w w.heap.size a f.body.length ca f.body) (ht : Sl w w.heap.size b g.body.length cb g.body) (hf : f.body.length ≤ 3000) (hg : g.body.length ≤ 3000) :
    Calls Try.prog 8 #[.agg #[.int .i64 f.ty, .int .i64 f.seq, .slice a f.body.length ca], .agg #[.int .i64 g.ty, .int .i64 g.seq, .slice b g.body.length cb]] w fun e w' => e = .returned (.bool true) ∧ Below w.heap.size w w' := by
  have PF := Lib.hid (put_any f a ca)
  have PG := Lib.hid (put_any g b cb)
  have RF := Lib.hid (right_any f a ca)
  have RG := Lib.hid (right_any g b cb)
  have HS := Lib.hid hs
  have HT := Lib.hid ht
  have lf : ((f.body.length : Nat) : Int) ≤ 3000 := by omega
  have lg : ((g.body.length : Nat) : Int) ≤ 3000 := by omega
  go_enter Try.func8, Try.ntmps8
  go_wp2_with fail
  refine (head_any _).mono ?_
  rintro e w1 ⟨rfl, hb1⟩
  have K1 := Lib.hid ((Two.start w f g a b ca cb).on hb1)
  obtain ⟨x0, x1, x2, y0, y1, y2⟩ := K1.out.cells
  clear hb1 hs ht
  go_wp2_with fail
  refine (PF.out w1 ((HS.out.below K1.out.below (Nat.le_refl _)).more K1.out.below.size)).mono ?_
  rintro e w2 ⟨vx, rfl, hox, hb2⟩
  have K2 := Lib.hid (K1.out.on hb2)
  clear x0 x1 x2 y0 y1 y2
  obtain ⟨x0, x1, x2, y0, y1, y2⟩ := K2.out.cells
  have hzx := hb2.size
  clear K1 hb2
  go_wp2_with fail
  refine (PG.out w2 ((HT.out.below K2.out.below (Nat.le_refl _)).more K2.out.below.size)).mono ?_
  rintro e w3 ⟨vy, rfl, hoy, hb3⟩
  have K3 := Lib.hid (K2.out.on hb3)
  clear x0 x1 x2 y0 y1 y2
  obtain ⟨x0, x1, x2, y0, y1, y2⟩ := K3.out.cells
  obtain ⟨ax, cx, hvx, hsx⟩ := (hox.below hb3).sl (put_byte f HS.out.byte)
  obtain ⟨ay, cy, hvy, hsy⟩ := hoy.sl (put_byte g HT.out.byte)
  subst hvx hvy
  have SX := Lib.hid hsx
  have SY := Lib.hid hsy
  have hlx := put_len_le f
  have hly := put_len_le g
  clear hox hoy hsx hsy K2 hb3 hzx PF PG
  by_cases rb : f.right ∧ g.right
  · obtain ⟨rf, rg⟩ := rb
    · have px : put f = raw f := by unfold put; rw [if_pos rf]
      have py : put g = raw g := by unfold put; rw [if_pos rg]
      rw [px] at SX hlx ⊢
      rw [py] at SY hly ⊢
      have Hmin := Lib.hid (raw_prefix f g rf rg)
      have ex := raw_len f
      have ey := raw_len g
      have hbx := raw_byte f HS.out.byte
      have hby := raw_byte g HT.out.byte
      obtain ⟨lx, hlx'⟩ : ∃ l, l = (raw f).length := ⟨_, rfl⟩
      obtain ⟨ly, hly'⟩ : ∃ l, l = (raw g).length := ⟨_, rfl⟩
      rw [← hlx'] at SX hlx ex ⊢
      rw [← hly'] at SY hly ey ⊢
      obtain ⟨n, hn⟩ : ∃ n, n = min lx ly := ⟨_, rfl⟩
      have hn1 : n ≤ lx := by omega
      have hn2 : n ≤ ly := by omega
      have hmin := min2_any lx ly
      rw [← hn] at hmin
      have Hp := Lib.hid (Hmin.out n (by omega))
      have hx0 : ((lx : Int) == 0) = false := by simp; omega
      have hy0 : ((ly : Int) == 0) = false := by simp; omega
      have hxl : ((lx : Int) == 11 + ((f.body.length : Nat) : Int)) = true := by simp; omega
      have hxy : ((strOf ((raw f).take n)).toList == (strOf ((raw g).take n)).toList) = decide ([f] = [g]) := by
        have hb1 : ∀ c ∈ (raw f).take n, c < 256 := fun c hc => hbx c (List.mem_of_mem_take hc)
        have hb2 : ∀ c ∈ (raw g).take n, c < 256 := fun c hc => hby c (List.mem_of_mem_take hc)
        by_cases e : f = g
        · subst e; simp
        · rw [decide_eq_false (by simpa using e)]
          exact ne_toList (fun h => e (Hp.out.1 (strOf_inj hb1 hb2 h)))
      clear hn px py ex ey hbx hby Hmin Hp hlx' hly'
      have hd : ∀ o, (w3.alloc o).cell? ⟨w.heap.size + 1, 0, none⟩ = some (.int .i64 g.ty) ∧ (w3.alloc o).cell? ⟨w.heap.size + 1, 1, none⟩ = some (.int .i64 g.seq) ∧ (w3.alloc o).cell? ⟨w.heap.size + 1, 2, none⟩ = some (.slice b g.body.length cb) := fun o =>
        let h := (K3.out.on ((Below.refl _ w3).alloc (Nat.le_refl _) o)).cells
        ⟨h.2.2.2.1, h.2.2.2.2.1, h.2.2.2.2.2⟩
      obtain ⟨z0, z1, z2⟩ : (∀ o, (w3.alloc o).cell? ⟨w.heap.size + 1, 0, none⟩ = some (.int .i64 g.ty)) ∧ (∀ o, (w3.alloc o).cell? ⟨w.heap.size + 1, 1, none⟩ = some (.int .i64 g.seq)) ∧ (∀ o, (w3.alloc o).cell? ⟨w.heap.size + 1, 2, none⟩ = some (.slice b g.body.length cb)) := ⟨fun o => (hd o).1, fun o => (hd o).2.1, fun o => (hd o).2.2⟩
      clear hd
      go_wp2_with fail
      refine (same_any (some ⟨w3.heap.size, 0, none⟩) 1 1 [f] (some ⟨w3.heap.size + 1, 0, none⟩) 1 1 [g] _ ?_ ?_).mono ?_
      · exact Frs.one (w1 := w3) (w := (w3.alloc _).alloc _) (f := f) ((heap_alloc_old _ _ (by simp)).trans (heap_alloc_new _ _)) rfl rfl rfl ((HS.out.below K3.out.below (Nat.le_refl _)).more K3.out.below.size) (((Below.refl _ _).alloc (Nat.le_refl _) _).alloc (by simp) _)
      · exact Frs.one (w1 := w3) (w := (w3.alloc _).alloc _) (f := g) (heap_alloc2_new _ _ _) rfl rfl rfl ((HT.out.below K3.out.below (Nat.le_refl _)).more K3.out.below.size) (((Below.refl _ _).alloc (Nat.le_refl _) _).alloc (by simp) _)
      rintro e w4 ⟨rfl, hb4⟩
      have hB4 := (((Below.refl w3.heap.size w3).alloc (Nat.le_refl _) _).alloc (by simp) _).trans (hb4.mono (by simp; omega))
      have K4 := Lib.hid (K3.out.on hB4)
      have sx4 := ((SX.out.below hB4 (Nat.le_refl _)).more hB4.size).take hn1
      have sy4 := ((SY.out.below hB4 (Nat.le_refl _)).more hB4.size).take hn2
      have hcx := SX.out.le
      have hcy := SY.out.le
      have cx1 := run_cut_to (P := Try.prog) 22 5 Try.underlying22 info_u8 ax lx cx n (by omega)
      have cy1 := run_cut_to (P := Try.prog) 22 5 Try.underlying22 info_u8 ay ly cy n (by omega)
      have e1 := run_strs sx4
      have e2 := run_strs sy4
      generalize strOf ((raw f).take n) = s1 at e1 hxy
      generalize strOf ((raw g).take n) = s2 at e2 hxy
      generalize decide ([f] = [g]) = P at hxy
      clear x0 x1 x2 y0 y1 y2 z0 z1 z2
      obtain ⟨x0, x1, x2, y0, y1, y2⟩ := K4.out.cells
      clear hB4 hb4 sx4 sy4 hmin K3
      go_wp2_with fail
      go_quiet (fail)
      go_wp2
      go_ret
      exact ⟨by simp, below_drewN K4.out.below⟩
  · have hbx : (((put f).length : Int) == 0) = !decide f.right := by
      unfold put
      by_cases h : f.right
      · rw [if_pos h, decide_eq_true h, raw_len]; simp; omega
      · rw [if_neg h, decide_eq_false h]; rfl
    have hby : (((put g).length : Int) == 0) = !decide g.right := by
      unfold put
      by_cases h : g.right
      · rw [if_pos h, decide_eq_true h, raw_len]; simp; omega
      · rw [if_neg h, decide_eq_false h]; rfl
    have hno : (decide f.right && decide g.right) = false := by
      simpa using rb
    generalize decide f.right = bf at hbx hno RF
    generalize decide g.right = bg at hby hno RG
    generalize (put f).length = lx at hbx SX hlx ⊢
    generalize (put g).length = ly at hby SY hly ⊢
    have K3' := fun o => Lib.hid (K3.out.on ((Below.refl _ w3).alloc (Nat.le_refl _) o))
    cases bf <;> cases bg
    case true.true => cases hno
    all_goals
      simp only [Bool.not_true, Bool.not_false] at hbx hby
      go_wp2_with fail
      refine (RF.out w3).mono ?_
      rintro e w4 ⟨rfl, hb4⟩
      have K4 := Lib.hid (K3.out.on hb4)
      clear x0 x1 x2 y0 y1 y2
      obtain ⟨x0, x1, x2, y0, y1, y2⟩ := K4.out.cells
      go_wp2_with fail
      refine (RG.out w4).mono ?_
      rintro e w5 ⟨rfl, hb5⟩
      have K5 := Lib.hid (K4.out.on hb5)
      clear x0 x1 x2 y0 y1 y2 hb4 hb5
      go_wp2
      go_ret
      exact ⟨rfl, K5.out.below⟩

theorem frameSizes_walk (f g : Fr) (a : Option Addr) (ca : Nat) (b : Option Addr) (cb : Nat) (w : World) (hs : Sl w w.heap.size a f.body.length ca f.body) (ht : Sl w w.heap.size b g.body.length cb g.body) :
    Calls Try.prog 8 #[.agg #[.int .i64 f.ty, .int .i64 f.seq, .slice a f.body.length ca], .agg #[.int .i64 g.ty, .int .i64 g.seq, .slice b g.body.length cb]] w fun e w' => e = .returned (.bool true) ∧ Below w.heap.size w w' := by
  by_cases hf : f.body.length ≤ 3000
  · by_cases hg : g.body.length ≤ 3000
    · exact frameSizes_in f g a ca b cb w hs ht hf hg
    · have lf : ((f.body.length : Nat) : Int) ≤ 3000 := by omega
      have lg : (3000 : Int) < ((g.body.length : Nat) : Int) := by omega
      go_enter Try.func8, Try.ntmps8
      go_wp2_with fail
      refine (head_any _).mono ?_
      rintro e w1 ⟨rfl, hb1⟩
      have K1 := Lib.hid ((Two.start w f g a b ca cb).on hb1)
      obtain ⟨x0, x1, x2, y0, y1, y2⟩ := K1.out.cells
      go_wp2
      go_ret
      exact ⟨rfl, K1.out.below⟩
  · have lf : (3000 : Int) < ((f.body.length : Nat) : Int) := by omega
    go_enter Try.func8, Try.ntmps8
    go_wp2_with fail
    refine (head_any _).mono ?_
    rintro e w1 ⟨rfl, hb1⟩
    have K1 := Lib.hid ((Two.start w f g a b ca cb).on hb1)
    obtain ⟨x0, x1, x2, y0, y1, y2⟩ := K1.out.cells
    go_wp2
    go_ret
    exact ⟨rfl, K1.out.below⟩
end Go.Proofs.Ytdabeelplblgdaa

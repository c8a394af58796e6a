/- The reference's disk: a call of the statements' (Plain). -/
import Derived.Test.YtohiheohndmccaaGreatRdT
import Derived.Test.YtohiheohndmccaaGreatDkQ
namespace Go.Proofs.YtohiheohndmccaaGreat
open Go.RowKit Go.Sort
open Go.Maps
attribute [local go_sem] Oper.semAt_some

theorem Mr.before {w0 w w1 w' : World} {dp : Nat} {O : Nat → Prop} {t : St} (hb : Below w.heap.size w w1) (h : Mr w0 w1 dp O t w') : Mr w0 w dp O t w' := by
  obtain ⟨O', h1, h2, h3⟩ := h
  exact ⟨O', h1, (But.of_below (O := O) hb).trans h2 (fun _ hi => .inl hi), fun k hk => (h3 k hk).imp id (Nat.le_trans hb.size)⟩
def PDone (w0 w : World) (dp : Nat) (O : Nat → Prop) (r : Int × St) (e : Ending) (w' : World) : Prop := e = .returned (.int .i64 r.1) ∧ Mr w0 w dp O r.2 w'
section
variable {w0 w : World} {dp : Nat} {t : St} {O : Nat → Prop}
set_option maxRecDepth 100000 in
set_option maxHeartbeats 3200000 in
theorem plain_any (h : RK w0 w dp t O) (op : OpV) {B : Nat} (ho : OpIn w B op) (hB : B ≤ w0.heap.size) : Calls Tryz.prog 9 #[.pointer (some ⟨dp, 0, none⟩), opVal op] w (PDone w0 w dp O (t.do_ op)) := by
  have hb1 : Below w.heap.size w (w.alloc (.cells #[.int .i64 op.what, .string op.nm, .string op.to_, .slice op.ba op.bs.length op.bc, .int .i64 op.n, .slice op.ka op.ks.length op.kc] 35)) := (Below.refl _ _).alloc (Nat.le_refl _) _
  obtain ⟨x0, x1, x2, x3, x4, x5⟩ := cell_box6 w (.int .i64 op.what) (.string op.nm) (.string op.to_) (.slice op.ba op.bs.length op.bc) (.int .i64 op.n) (.slice op.ka op.ks.length op.kc) 35
  have hwB : B ≤ w.heap.size := Nat.le_trans hB h.below.size
  have ho1 := ho.below hb1 hwB
  have k1 := h.on hb1
  have hfar : ∀ {a : Option Addr} {n c : Nat} {bs : List Nat}, Sl w B a n c bs → 0 < n → ∀ k o, a = some ⟨k, o, none⟩ → ¬ O k := fun hs hp k o e hO => by
    obtain ⟨b', o', e', hlt, _⟩ := hs.at_ hp
    rw [e] at e'
    injection e' with e'
    injection e' with e1 e2
    have := h.base k hO
    omega
  have hfar2 : ∀ {a : Option Addr} {n c m : Nat} {cs : Nat → Value}, Row w B a n c m cs → 0 < n → ∀ k o, a = some ⟨k, o, none⟩ → ¬ O k := fun hs hp k o e hO => by
    obtain ⟨b', o', e', hlt, _⟩ := hs.at_ hp
    rw [e] at e'
    injection e' with e'
    injection e' with e1 e2
    have := h.base k hO
    omega
  have CS := Lib.hid (k1.sync op.nm)
  have CR := Lib.hid (k1.rename op.nm op.to_ (by have := ho.to__; unfold maxLen; omega))
  have CD := Lib.hid (k1.delete op.nm)
  have CF := Lib.hid (k1.fuse op.n ho.n_.2)
  have CL := Lib.hid (k1.fail op.n ho.n_.2)
  have CC := Lib.hid (k1.crash op.ks op.ka op.ks.length op.kc ((ho.row.below hb1 hwB).more (by simp <;> omega)) rfl (hfar2 ho.row))
  have CW := Lib.hid (k1.write op.nm (by have := ho.nm_; unfold maxLen; omega) op.ba op.bs.length op.bc op.bs ((ho.sl.below hb1 hwB).more (by simp <;> omega)) ho.bs_ (hfar ho.sl))
  have HB := Lib.hid hb1
  have HD : Hid (t.do_ op = if op.what = 3 ∨ op.what = 4 then t.sync op.nm.data.toList else if op.what = 5 then t.rename op.nm.data.toList op.to_.data.toList else if op.what = 6 then t.delete op.nm.data.toList else if op.what = 7 then (0, t.fuse_ op.n) else if op.what = 8 then (0, t.fail_ op.n) else if op.what = 9 then (0, t.crash op.ks) else t.write op.nm.data.toList op.bs) := rfl
  clear hb1 ho1 k1 hfar hfar2 ho h
  generalize t.do_ op = r at *
  show Calls Tryz.prog 9 #[.pointer (some ⟨dp, 0, none⟩), .agg #[.int .i64 op.what, .string op.nm, .string op.to_, .slice op.ba op.bs.length op.bc, .int .i64 op.n, .slice op.ka op.ks.length op.kc]] w _
  generalize op.what = what at *
  by_cases h3 : what = 3
  · have hr : r = t.sync op.nm.data.toList := HD.out.trans (by rw [if_pos (by omega)])
    subst hr h3
    clear HD
    go_enter Tryz.func9, Tryz.ntmps9
    go_wp2_with fail
    refine CS.out.mono ?_
    rintro e w' ⟨rfl, hmv⟩
    have HM := Lib.hid (Mr.before HB.out hmv)
    clear hmv
    go_wp2
    go_ret
    exact ⟨rfl, HM.out⟩
  by_cases h4 : what = 4
  · have hr : r = t.sync op.nm.data.toList := HD.out.trans (by rw [if_pos (by omega)])
    subst hr h4
    clear HD
    go_enter Tryz.func9, Tryz.ntmps9
    go_wp2_with fail
    refine CS.out.mono ?_
    rintro e w' ⟨rfl, hmv⟩
    have HM := Lib.hid (Mr.before HB.out hmv)
    clear hmv
    go_wp2
    go_ret
    exact ⟨rfl, HM.out⟩
  by_cases h5 : what = 5
  · have hr : r = t.rename op.nm.data.toList op.to_.data.toList := HD.out.trans (by rw [if_neg (by omega), if_pos (by omega)])
    subst hr h5
    clear HD
    go_enter Tryz.func9, Tryz.ntmps9
    go_wp2_with fail
    refine CR.out.mono ?_
    rintro e w' ⟨rfl, hmv⟩
    have HM := Lib.hid (Mr.before HB.out hmv)
    clear hmv
    go_wp2
    go_ret
    exact ⟨rfl, HM.out⟩
  by_cases h6 : what = 6
  · have hr : r = t.delete op.nm.data.toList := HD.out.trans (by rw [if_neg (by omega), if_neg (by omega), if_pos (by omega)])
    subst hr h6
    clear HD
    go_enter Tryz.func9, Tryz.ntmps9
    go_wp2_with fail
    refine CD.out.mono ?_
    rintro e w' ⟨rfl, hmv⟩
    have HM := Lib.hid (Mr.before HB.out hmv)
    clear hmv
    go_wp2
    go_ret
    exact ⟨rfl, HM.out⟩
  by_cases h7 : what = 7
  · have hr : r = (0, t.fuse_ op.n) := HD.out.trans (by rw [if_neg (by omega), if_neg (by omega), if_neg (by omega), if_pos (by omega)])
    subst hr h7
    clear HD
    go_enter Tryz.func9, Tryz.ntmps9
    go_wp2_with fail
    refine CF.out.mono ?_
    rintro e w' ⟨rfl, hmv⟩
    have HM := Lib.hid (Mr.before HB.out hmv)
    clear hmv
    go_wp2
    go_ret
    exact ⟨rfl, HM.out⟩
  by_cases h8 : what = 8
  · have hr : r = (0, t.fail_ op.n) := HD.out.trans (by rw [if_neg (by omega), if_neg (by omega), if_neg (by omega), if_neg (by omega), if_pos (by omega)])
    subst hr h8
    clear HD
    go_enter Tryz.func9, Tryz.ntmps9
    go_wp2_with fail
    refine CL.out.mono ?_
    rintro e w' ⟨rfl, hmv⟩
    have HM := Lib.hid (Mr.before HB.out hmv)
    clear hmv
    go_wp2
    go_ret
    exact ⟨rfl, HM.out⟩
  by_cases h9 : what = 9
  · have hr : r = (0, t.crash op.ks) := HD.out.trans (by rw [if_neg (by omega), if_neg (by omega), if_neg (by omega), if_neg (by omega), if_neg (by omega), if_pos (by omega)])
    subst hr h9
    clear HD
    go_enter Tryz.func9, Tryz.ntmps9
    go_wp2_with fail
    refine CC.out.mono ?_
    rintro e w' ⟨rfl, hmv⟩
    have HM := Lib.hid (Mr.before HB.out hmv)
    clear hmv
    go_wp2
    go_ret
    exact ⟨rfl, HM.out⟩
  have hr : r = t.write op.nm.data.toList op.bs := HD.out.trans (by rw [if_neg (by omega), if_neg (by omega), if_neg (by omega), if_neg (by omega), if_neg (by omega), if_neg (by omega)])
  subst hr
  clear HD
  go_enter Tryz.func9, Tryz.ntmps9
  go_wp2_with fail
  refine CW.out.mono ?_
  rintro e w' ⟨rfl, hmv⟩
  have HM := Lib.hid (Mr.before HB.out hmv)
  clear hmv
  go_wp2
  go_ret
  exact ⟨rfl, HM.out⟩
end
end Go.Proofs.YtohiheohndmccaaGreat

/- The reference's Index. -/
import Derived.Test.YtcmgefccihehkaaDoorSgE
import Derived.Deep.AppendLies
namespace Go.Proofs.YtcmgefccihehkaaDoor
open Go.RowKit Go.Shelf
open Crc Frm

theorem OwnS.mono {w : World} {base base' : Nat} {v : Value} {l : List (Int × Int)} (h : OwnS w base v l) (hb : base' ≤ base) : OwnS w base' v l := by
  refine ⟨h.1, ?_⟩
  rcases h.2 with h1 | ⟨g, cap, cur, rfl, h2, h3⟩
  · exact .inl h1
  · exact .inr ⟨g, cap, cur, rfl, Nat.le_trans hb h2, h3⟩
theorem OwnS.at_base {w : World} {base : Nat} {v : Value} {l : List (Int × Int)} (h : OwnS w base v l) {b : Nat} (hb : v.ownBlock = some b) : base ≤ b := by
  rcases h.2 with ⟨rfl, _⟩ | ⟨g, cap, cur, rfl, h2, _⟩
  · cases hb
  · injection hb with hb
    subst hb
    exact h2
theorem tl_snoc : ∀ (fs : List Fr) (f : Fr) (at_ : Nat), tl (fs ++ [f]) at_ = tl fs at_ ++ [(at_ + (rows fs).length, f)] := by
  intro fs
  induction fs with
  | nil => intro f at_; rfl
  | cons g fs ih =>
    intro f at_
    simp only [List.cons_append, tl, ih, rows_cons, List.length_append]
    rw [Nat.add_assoc]

set_option maxRecDepth 100000 in
set_option maxHeartbeats 6400000 in
theorem rindex_any (a : Option Addr) (len cap : Nat) (bs : List Nat) (every : Int) (he : every ≤ 9223372036854775807) (w : World) (hs : Sl w w.heap.size a len cap bs) (hlen : len ≤ 100000) :
    Calls Tryd.prog 23 #[.slice a len cap, .int .i64 every] w fun e w' => ∃ v, e = .returned v ∧ OwnS w' w.heap.size v (rix bs every) ∧ Below w.heap.size w w' := by
  have RD := Lib.hid (rsegRead_any a len cap bs w hs hlen)
  have Hix : Hid (rix bs every = if (rd bs).2.2.2 ≠ 0 ∨ every < 1 then [] else ix (tl (rd bs).2.1 12) every.toNat 0) := rfl
  have hrt : (rd bs).2.2.2 = 0 → (∀ f ∈ (rd bs).2.1, f.right) ∧ (rows (rd bs).2.1).length ≤ 100000 := fun h0 => by
    unfold rd at h0 ⊢
    split at h0
    · rename_i h1; exact absurd h0 h1
    · rename_i h1
      rw [if_neg h1]
      obtain ⟨s1, s2⟩ := scan_spec (bs.length + 1) (bs.drop 12) ((rh bs).1 : Int) (fun c hc => hs.byte c (List.mem_of_mem_drop hc)) (by rw [List.length_drop]; omega)
      refine ⟨s1, ?_⟩
      rw [← s2, List.length_take, List.length_drop]
      have := hs.length
      omega
  generalize rd bs = r at RD Hix hrt
  obtain ⟨f0, fs, n, er⟩ := r
  simp only at Hix hrt
  unfold RdPost at RD
  simp only at RD
  clear hs
  by_cases h0 : er = 0
  · subst h0
    obtain ⟨hr, hrl⟩ := hrt rfl
    have HR := Lib.hid hr
    clear hrt hr
    by_cases h1e : every < 1
    · have hres := Hix.out
      rw [if_pos (.inr h1e)] at hres
      have Hr := Lib.hid hres
      clear hres
      go_enter Tryd.func23, Tryd.ntmps23
      go_wp2_with (go_at_call 13; refine RD.out.mono ?_; rintro e w1 ⟨v, ts, rfl, _, _, hb⟩; have H := Lib.hid hb; clear hb)
      go_ret
      exact ⟨_, rfl, by rw [Hr.out]; exact OwnS.nil_ _ _, H.out⟩
    · obtain ⟨ev, rfl⟩ := Int.eq_ofNat_of_zero_le (show 0 ≤ every by omega)
      have hres := Hix.out
      rw [if_neg (by simp; omega), Int.toNat_natCast] at hres
      have Hr := Lib.hid hres
      clear hres
      have hev : 1 ≤ ev := by omega
      have h1e' : (1 : Int) ≤ (ev : Int) := by omega
      go_enter Tryd.func23, Tryd.ntmps23
      go_upto_region 7 with (go_at_call 13; refine RD.out.mono ?_; rintro e w1 ⟨v, ts, rfl, ho, hts, hb⟩; have H1 := Lib.hid (And.intro ho (And.intro hts hb)); clear ho hts hb)
      obtain ⟨al, cl, hv, hfr⟩ := H1.out.1.frs
      rw [H1.out.2.1] at hfr
      have hlf : ts.length = fs.length := by rw [← H1.out.2.1, List.length_map]
      rw [hlf] at hv hfr
      subst hv
      obtain ⟨k, hk⟩ : ∃ k, k = fs.length := ⟨_, rfl⟩
      rw [← hk] at hfr ⊢
      have HF := Lib.hid (And.intro hfr hk)
      clear hfr hlf hk
      have hkl : k ≤ 100000 := by
        have : ∀ (M : List Fr), M.length ≤ (rows M).length := by
          intro M
          induction M with
          | nil => simp
          | cons f r ih => rw [rows_cons, List.length_append, raw_len, List.length_cons]; omega
        have := this fs
        have := HF.out.2
        omega
      go_loopw [9, 10, 11] (fun v at_ i wx => ∃ j : Nat, j ≤ k ∧ i = .int .i64 (j : Int) ∧ at_ = .int .i64 ((12 + (rows (fs.take j)).length : Nat) : Int) ∧ OwnS wx w1.heap.size v (ix (tl (fs.take j) 12) ev 0) ∧ Below w1.heap.size w1 wx) (fun _ _ i _ => k - (intOf i).toNat)
      case atStart => exact ⟨0, by omega, rfl, rfl, OwnS.nil_ _ _, Below.refl _ _⟩
      case round =>
        obtain ⟨j, hj, rfl, rfl, hO, hB⟩ := hrel
        by_cases hlt : j < k
        · have hLk := HF.out.2
          obtain ⟨b, o, rfl, hb, hc0⟩ := HF.out.1.at_ (by omega)
          have hjl : j < fs.length := by omega
          have hgj : fs[j]? = some fs[j] := List.getElem?_eq_getElem hjl
          obtain ⟨ba, bc, x0, x1, x2, hsb⟩ := hc0 j fs[j] hgj
          have x0 := (hB.cell (p := ⟨b, o + j * 3, none⟩) hb).trans x0
          have x1 := (hB.cell (p := ⟨b, o + j * 3 + 1, none⟩) hb).trans x1
          have x2 := (hB.cell (p := ⟨b, o + j * 3 + 2, none⟩) hb).trans x2
          have hfr := HR.out fs[j] (List.getElem_mem _)
          have htk : fs.take (j + 1) = fs.take j ++ [fs[j]] := by rw [List.take_add_one, hgj]; rfl
          have hrs := rows_snoc fs[j] (fs.take j)
          have hts2 := tl_snoc (fs.take j) fs[j] 12
          have hrj : (rows (fs.take j)).length ≤ (rows fs).length := by
            conv => rhs; rw [← List.take_append_drop j fs]
            unfold rows
            rw [List.flatMap_append, List.length_append]
            omega
          have hxs := ix_snoc (tl (fs.take j) 12) (12 + (rows (fs.take j)).length, fs[j]) ev 0
          rw [← hts2, ← htk, tl_len, List.length_take, Nat.min_eq_left (by omega), Nat.zero_add] at hxs
          rw [← htk] at hrs
          have PU := fun (w' : World) (hb : Below w1.heap.size w1 w') => rput_any fs[j] ba bc w' ((hsb.below hb (Nat.le_refl _)).more hb.size)
          rw [show put fs[j] = raw fs[j] from by unfold put; rw [if_pos hfr]] at PU
          have hby := raw_byte fs[j] hsb.byte
          have hrl2 := raw_len fs[j]
          have hb18 := hfr.2.2.2.2
          have hxl := ix_len (tl (fs.take j) 12) ev 0
          rw [tl_len, List.length_take, Nat.min_eq_left (by omega)] at hxl
          have hrw : (rows (fs.take (j + 1))).length = (rows (fs.take j)).length + (raw fs[j]).length := by rw [hrs, List.length_append]
          generalize fs[j] = f at x0 x1 x2 PU hby hrl2 hb18 hxs hrw
          obtain ⟨at_, hat⟩ : ∃ at_, at_ = 12 + (rows (fs.take j)).length := ⟨_, rfl⟩
          rw [← hat] at hxs ⊢
          have hat1 : at_ ≤ 100012 := by omega
          obtain ⟨lf, hlf⟩ : ∃ l, l = (raw f).length := ⟨_, rfl⟩
          have hl11 : lf ≤ 1811 := by omega
          have PU := Lib.hid PU
          have HB := Lib.hid (And.intro hO (And.intro hB (And.intro hxs (And.intro (And.intro hrw hat) (And.intro hlf hby)))))
          have hOa : ∀ o, OwnS (wr.alloc o) w1.heap.size u9 (ix (tl (fs.take j) 12) ev 0) := fun o => World.ownsRow.alloc hO o
          have HOa := Lib.hid hOa
          have hbb := Nat.lt_of_lt_of_le hb hB.size
          have hwB := hB.size
          clear hc0 hgj hsb hfr hO hB hxs hrs hts2 htk hby hlf hrl2 hb18 hrj hrw hat hLk hOa
          by_cases hz : j % ev = 0
          · have hzi : ((j : Int) % (ev : Int) == 0) = true := by
              have : (j : Int) % (ev : Int) = 0 := by rw [← Int.natCast_emod, hz]; rfl
              simpa using this
            obtain ⟨i2, hi2, hz0, hz1, hz2⟩ := info_parts info_spot
            have Hz := Lib.hid hz
            clear hz
            go_wp2_with (first
            | (at_builtin; refine wpList_append_own_at _ rfl (.tmp 35) (.tmp 43) 34 rfl w1.heap.size 53 i2 (.agg #[.int .i64 0, .int .i64 0]) 2 16 Tryd.underlying34 hi2 hz0 hz1 hz2 rfl (by decide) u9 _ _ rfl (HOa.out _) ⟨wr.heap.size, 0, none⟩ 1 1 [.int .i64 f.seq, .int .i64 (at_ : Int)] rfl rfl (World.news_of_block (heap_alloc_new wr _)) (by intro u hu; simp at hu; rcases hu with rfl | rfl <;> rfl) (by unfold maxLen; omega) (by omega) (by simp; omega) ?_; intro v2 w2 hO2 hg2 _ _; have hB2 : Below w1.heap.size w1 w2 := (HB.out.2.1.alloc HB.out.2.1.size _).grown hg2 (by simp; omega) (fun z hz => HB.out.1.at_base hz); have hg2b : ∀ z, u9.ownBlock = some z → w1.heap.size ≤ z := (fun z hz => HB.out.1.at_base hz); have x0 := (hg2.cell ((World.cell?_alloc_past _ _ _ hbb).trans x0) (fun h => by have hx : w1.heap.size ≤ b := hg2b _ h.symm; omega)); have x1 := (hg2.cell ((World.cell?_alloc_past _ _ _ hbb).trans x1) (fun h => by have hx : w1.heap.size ≤ b := hg2b _ h.symm; omega)); have x2 := (hg2.cell ((World.cell?_alloc_past _ _ _ hbb).trans x2) (fun h => by have hx : w1.heap.size ≤ b := hg2b _ h.symm; omega)); have HD := Lib.hid (And.intro hO2 hB2); clear hO2 hg2 hB2 hg2b)
            | (go_at_call 26; refine (PU.out _ HD.out.2).mono ?_; rintro e w5 ⟨vp, rfl, hop, hb5⟩; obtain ⟨ap, cp, hvp, hsp⟩ := hop.sl HB.out.2.2.2.2.2; rw [← HB.out.2.2.2.2.1] at hvp; subst hvp; have HC := Lib.hid hb5; clear hop hb5 hsp))
            obtain ⟨⟨hrw, hat⟩, hlf, _⟩ := HB.out.2.2.2
            refine ⟨⟨j + 1, by omega, by go_num, ?_, ?_, ?_⟩, by simp [intOf]; omega⟩
            · rw [show 12 + (rows (fs.take (j + 1))).length = at_ + lf from by omega]
              push_cast
              rfl
            · rw [HB.out.2.2.1, if_pos Hz.out]
              unfold OwnS
              rw [List.length_append, scells_snoc]
              exact World.ownsRow.kept HD.out.1 (grown_of_below HC.out none) (by cases hv : v2.ownBlock <;> simp)
            · exact HD.out.2.trans (HC.out.mono HD.out.2.size)
          · have hzi : ((j : Int) % (ev : Int) == 0) = false := by
              rw [beq_eq_false_iff_ne]
              intro h
              rw [← Int.natCast_emod] at h
              exact hz (by exact_mod_cast h)
            have Hz := Lib.hid hz
            clear hz
            go_wp2_with (first
            | (go_at_call 26; refine (PU.out _ HB.out.2.1).mono ?_; rintro e w5 ⟨vp, rfl, hop, hb5⟩; obtain ⟨ap, cp, hvp, hsp⟩ := hop.sl HB.out.2.2.2.2.2; rw [← HB.out.2.2.2.2.1] at hvp; subst hvp; have HC := Lib.hid hb5; clear hop hb5 hsp))
            obtain ⟨⟨hrw, hat⟩, hlf, _⟩ := HB.out.2.2.2
            refine ⟨⟨j + 1, by omega, by go_num, ?_, ?_, ?_⟩, by simp [intOf]; omega⟩
            · rw [show 12 + (rows (fs.take (j + 1))).length = at_ + lf from by omega]
              push_cast
              rfl
            · rw [HB.out.2.2.1, if_neg Hz.out, List.append_nil]
              exact World.ownsRow.kept HB.out.1 (grown_of_below HC.out none) (by cases hv : u9.ownBlock <;> simp)
            · exact HB.out.2.1.trans (HC.out.mono HB.out.2.1.size)
        · have hjk : j = k := by omega
          subst hjk
          rw [List.take_of_length_le (by rw [← HF.out.2]; exact Nat.le_refl _)] at hO
          have HO := Lib.hid (And.intro hO hB)
          clear hO hB
          go_wp2_with fail
          go_ret
          exact ⟨_, rfl, by rw [Hr.out]; exact HO.out.1.mono H1.out.2.2.size, H1.out.2.2.trans (HO.out.2.mono H1.out.2.2.size)⟩
  · have hres := Hix.out
    rw [if_pos (.inl h0)] at hres
    have Hr := Lib.hid hres
    have hd : ((er : Int) != 0) = true := by simp; omega
    clear hres hrt h0
    go_enter Tryd.func23, Tryd.ntmps23
    go_wp2_with (go_at_call 13; refine RD.out.mono ?_; rintro e w1 ⟨v, ts, rfl, _, _, hb⟩; have H := Lib.hid hb; clear hb)
    go_ret
    exact ⟨_, rfl, by rw [Hr.out]; exact OwnS.nil_ _ _, H.out⟩
end Go.Proofs.YtcmgefccihehkaaDoor

/- The walk of DiskOwn. -/
import Derived.Test.YticjnjonhdcciaaDkP
import Derived.Laws.BitsLemmas
namespace Go.Proofs.Yticjnjonhdcciaa
open Go.RowKit Go.Sort
open Go.Maps
attribute [local go_sem] Oper.semAt_some

theorem strOf_size (a : List Nat) : (strOf a).size = a.length := by
  show (strOf a).data.size = _
  simp [strOf]
theorem strOf_append (a b : List Nat) : strOf (a ++ b) = strOf a ++ strOf b := by
  apply ByteArray.ext
  simp [strOf]
theorem OwnB.but {O : Nat → Prop} {w w' : World} {base : Nat} {e : TypeId} {v : Value} {bs : List Nat} (h : OwnB w base e v bs) (hb : But O w w') (hn : ∀ g, v.ownBlock = some g → ¬ O g) : OwnB w' base e v bs := by
  refine ⟨h.1, ?_⟩
  rcases h.2 with h1 | ⟨g, cap, cur, hv, h1, h2, h3⟩
  · exact .inl h1
  · exact .inr ⟨g, cap, cur, hv, h1, (hb.block g (lt_of_heap h2) (hn g (by rw [hv]; rfl))).trans h2, h3⟩
theorem OwnB.some_ {w : World} {base : Nat} {e : TypeId} {a : Option Addr} {n c : Nat} {bs : List Nat} (h : OwnB w base e (.slice a n c) bs) (hn : 0 < n) : ∃ g, a = some ⟨g, 0, none⟩ ∧ base ≤ g := by
  rcases h.2 with ⟨h', h0⟩ | ⟨g, cap, cur, hv, h1, _⟩
  · injection h' with _ h2 _; omega
  · injection hv with hv; exact ⟨g, hv, h1⟩
/-- A block that isn't the disk's is written. -/
theorem DK.set {w0 w : World} {dp : Nat} {t : St} {O : Nat → Prop} (h : DK w0 w dp t O) {g : Nat} (hg : ¬ O g) (hb : w0.heap.size ≤ g) (o : Nat) (u : Value) : DK w0 (w.setCell ⟨g, o, none⟩ u) dp t O :=
  ⟨Dsk.same h.is (fun k hk => Below.heap_setCell w ⟨g, o, none⟩ u k (fun e => hg (by subst e; exact hk))) (by simp [World.setCell]), h.base, h.below.setCell (p := ⟨g, o, none⟩) hb u⟩
def ownT (D : FS) : St := ⟨D, 1048576, -1, 0⟩
def f1 (a : List Nat) : FS := (DataW.map [] : FS).put (.string [102]) (.held ⟨a, 0⟩)
theorem own_w1 (a : List Nat) (h : a.length ≤ 9000) : (ownT (.map [])).write (⟨#[102]⟩ : ByteArray).data.toList a = (0, ownT (f1 a)) := by
  have h1 : fitsB (.map []) 1048576 [102] a.length = true := by
    unfold fitsB
    have : decide (tot (.map []) + a.length ≤ 1048576) = true := by simp [tot]; omega
    rw [this]
    rfl
  show (ownT (.map [])).write [102] a = _
  unfold St.write
  rw [if_neg (show ¬ ((ownT (.map [])).fuse = 0) by decide), if_neg (by decide), show (ownT (.map [])).D = .map [] from rfl, show (ownT (.map [])).room = 1048576 from rfl, h1, if_neg (by decide)]
  rfl
theorem own_f1 (a : List Nat) : fat (f1 a) [102] = some ⟨a, 0⟩ := fat_put_same isMap_empty _ _
theorem own_f2 (a b : List Nat) : fat ((f1 a).put (.string [102]) (.held ⟨a ++ b, 0⟩)) [102] = some ⟨a ++ b, 0⟩ := fat_put_same (isMap_empty.put _ _) _ _
theorem own_w2 (a b : List Nat) (h : a.length ≤ 9000) (hb : b.length ≤ 9000) : (ownT (f1 a)).write (⟨#[102]⟩ : ByteArray).data.toList b = (0, ownT ((f1 a).put (.string [102]) (.held ⟨a ++ b, 0⟩))) := by
  have h1 : fitsB (f1 a) 1048576 [102] b.length = true := by
    unfold fitsB
    have ht : tot (f1 a) = a.length := rfl
    have : decide (tot (f1 a) + b.length ≤ 1048576) = true := by simp [ht]; omega
    rw [this, own_f1]
    rfl
  show (ownT (f1 a)).write [102] b = _
  unfold St.write
  rw [if_neg (show ¬ ((ownT (f1 a)).fuse = 0) from show ¬ ((-1 : Int) = 0) by decide), if_neg (by decide), show (ownT (f1 a)).D = f1 a from rfl, show (ownT (f1 a)).room = 1048576 from rfl, h1, if_neg (by decide), own_f1]
  rfl
theorem byte_up (c : Nat) (h : c < 256) : IntKind.u8.wrap ((c : Int) + 1) = (((c + 1) % 256 : Nat) : Int) := by rw [IntKind.wrap_u8]; omega

set_option maxRecDepth 100000 in
set_option maxHeartbeats 3200000 in
theorem diskOwn_walk (a : Option Addr) (n c : Nat) (us : List Nat) (b : Option Addr) (m d : Nat) (bs : List Nat) (w0 : World) (ha : Sl w0 w0.heap.size a n c us) (hb : Sl w0 w0.heap.size b m d bs) :
    Calls Try.prog 8 #[.slice a n c, .slice b m d] w0 fun e w' => e = .returned (.bool true) ∧ Below w0.heap.size w0 w' := by
  have HD := Lib.hid (head_any w0)
  have hal := ha.length
  have hbl := hb.length
  have hle := ha.le
  have hle2 := hb.le
  have hmx := ha.max
  have hmx2 := hb.max
  unfold maxLen at hmx hmx2
  have HA := Lib.hid (And.intro ha hb)
  clear ha hb
  by_cases hg : n ≤ 9000 ∧ m ≤ 9000
  · obtain ⟨hn, hm⟩ := hg
    go_enter Try.func8, Try.ntmps8
    go_wp2_with fail
    refine HD.out.mono ?_
    rintro e w1 ⟨rfl, hb1⟩
    have N1 := Lib.hid (DK.new 1048576 (by decide) w1)
    have HB1 := Lib.hid hb1
    clear hb1 HD
    go_wp2_with fail
    refine N1.out.mono ?_
    rintro e w2 ⟨dp, O, rfl, hk, hb2, hO2⟩
    have K : Hid (DK w1 w2 dp (ownT (.map [])) O) := Lib.hid hk
    have hA2 := (HA.out.1.below (HB1.out.trans (hb2.mono HB1.out.size)) (Nat.le_refl _)).more (B' := w2.heap.size) (Nat.le_trans HB1.out.size hb2.size)
    have HX := Lib.hid (And.intro hb2 (And.intro hO2 hA2))
    clear hk hb2 hO2 hA2 N1
    have ho : OwnB (w2.alloc (.cells #[] 5)) w2.heap.size 5 (.slice (some ⟨w2.heap.size, 0, none⟩) 0 0) [] := OwnB.lit (w := w2) (base := w2.heap.size) 5 [] (Nat.le_refl _) (by decide)
    have HO := Lib.hid (And.intro ho (HX.out.2.2.below ((Below.refl w2.heap.size w2).alloc (Nat.le_refl _) (.cells #[] 5)) (Nat.le_refl _)))
    clear ho
    go_wp2_with (at_builtin; refine wpList_append_sl rfl (.tmp 33) (.tmp 34) _ rfl w2.heap.size _ Try.underlying31 info_u8 _ [] rfl HO.out.1 _ a n c us rfl HO.out.2 (by simp; omega) (by simp) ?_; intro v1 w3 ho1 hg1 hat1; obtain ⟨x, xc, rfl, hxs, hxb⟩ := ho1.sl_base (by simpa using HA.out.1.byte); rw [List.nil_append] at ho1 hxs; rw [hal] at ho1 hxs; have HO1 := Lib.hid (And.intro ho1 (And.intro hg1 (And.intro hxs hxb))); clear ho1 hg1 hat1 hxs hxb)
    have hB3 : Below w2.heap.size w2 w3 := ((Below.refl w2.heap.size w2).alloc (Nat.le_refl _) (.cells #[] 5)).grown HO1.out.2.1 (by simp) (fun k hk => by cases hk; exact Nat.le_refl _)
    have hxO : ∀ g, (Value.slice x n xc).ownBlock = some g → ¬ O g := fun g hg ho => by
      have h1 := (HO1.out.1.at_base hg).1
      have h2 := K.out.lt g ho
      omega
    have C := (K.out.on hB3).write ⟨#[102]⟩ (by decide) x n xc us HO1.out.2.2.1 (by omega) (fun hp k o hx ho => by
      subst hx
      exact hxO k rfl ho)
    rw [own_w1 us (by omega)] at C
    have HC := Lib.hid C
    have HX3 := Lib.hid (And.intro hB3 hxO)
    clear C hB3 hxO
    go_wp2_with fail
    refine HC.out.mono ?_
    rintro e w4 ⟨rfl, hmv⟩
    obtain ⟨O4, k4, b4, f4⟩ := hmv.far
    have HX4 := Lib.hid (And.intro k4 (HO1.out.1.but b4 HX3.out.2))
    have HX4n := Lib.hid (show ∀ g, x = some ⟨g, 0, none⟩ → ¬ O4 g from fun g hg => f4 g (by have := (HO1.out.1.at_base (b := g) (by subst hg; rfl)).2; omega) (HX3.out.2 g (by subst hg; rfl)))
    clear hmv k4 b4 f4 HC K
    go_wp2_with fail
    go_loopw [8] (fun i wr => ∃ (k : Nat) (xs : List Nat), k ≤ n ∧ i = .int .i64 (k : Int) ∧ OwnB wr w2.heap.size 5 (.slice x n xc) xs ∧ (∀ c ∈ xs, c < 256) ∧ DK w1 wr dp (ownT (f1 us)) O4) (fun i _ => n - (intOf i).toNat)
    case atStart => exact ⟨0, us, Nat.zero_le _, rfl, HX4.out.2, HA.out.1.byte, HX4.out.1⟩
    case round =>
      obtain ⟨k, xs, hk, rfl, hox, hxb, hkd⟩ := hrel
      by_cases hlt : k < n
      · obtain ⟨g, rfl, hgb⟩ := hox.some_ (by omega)
        have hxl := own_len hox
        obtain ⟨e1, e2⟩ := hox.cell (k := k) (by omega)
        have hcb : xs.getD k 0 < 256 := by rw [List.getD_eq_getElem?_getD, List.getElem?_eq_getElem (by omega)]; exact hxb _ (List.getElem_mem _)
        have hw := byte_up (xs.getD k 0) hcb
        have HR := Lib.hid (And.intro (hox.set_ k ((xs.getD k 0 + 1) % 256)) (And.intro hxb (hkd.set (g := g) (fun ho => HX4n.out g rfl ho) (by have := HX.out.1.size; omega) k (bv ((xs.getD k 0 + 1) % 256)))))
        unfold bv at HR
        generalize xs.getD k 0 = z at *
        clear hox hxb hkd
        go_wp2
        go_roundw
        case rel => exact ⟨k + 1, _, by omega, by go_num, HR.out.1, fun c hc => by rcases List.mem_or_eq_of_mem_set hc with h | h; exact HR.out.2.1 c h; subst h; exact Nat.mod_lt _ (by decide), HR.out.2.2⟩
        case measure => simp [intOf]; omega
      · have hkn : Hid (k = n) := by show _ = _; omega
        have KQ := Lib.hid hkd
        clear hox hxb hkd
        have hby := fat_byte KQ.out.good (⟨#[102]⟩ : ByteArray).data.toList
        have C := KQ.out.read ⟨#[102]⟩ (by decide)
        rw [show fat (ownT (f1 us)).D (⟨#[102]⟩ : ByteArray).data.toList = some ⟨us, 0⟩ from own_f1 us] at C
        have HC := Lib.hid C
        clear C hby
        go_wp2_with fail
        refine HC.out.mono ?_
        rintro e w6 ⟨y, yc, rfl, hoy, hb6⟩
        change OwnB w6 wr.heap.size 5 (.slice y us.length yc) us at hoy
        simp only [Option.getD_some, hal] at hoy ⊢
        have HY := Lib.hid (And.intro hoy (And.intro (KQ.out.on hb6) (fun g (hg : O4 g) => KQ.out.lt g hg)))
        clear hoy hb6 HC
        go_wp2_with fail
        go_loopw [11] (fun i wz => ∃ (k : Nat) (xs : List Nat), k ≤ n ∧ i = .int .i64 (k : Int) ∧ OwnB wz wr.heap.size 5 (.slice y n yc) xs ∧ (∀ c ∈ xs, c < 256) ∧ DK w1 wz dp (ownT (f1 us)) O4) (fun i _ => n - (intOf i).toNat)
        case atStart => exact ⟨0, us, Nat.zero_le _, rfl, HY.out.1, HA.out.1.byte, HY.out.2.1⟩
        case round =>
          obtain ⟨k, xs, hk, rfl, hox, hxb, hkd⟩ := hrel
          by_cases hlt : k < n
          · obtain ⟨g, rfl, hgb⟩ := hox.some_ (by omega)
            have hxl := own_len hox
            obtain ⟨e1, e2⟩ := hox.cell (k := k) (by omega)
            have hcb : xs.getD k 0 < 256 := by rw [List.getD_eq_getElem?_getD, List.getElem?_eq_getElem (by omega)]; exact hxb _ (List.getElem_mem _)
            have hw := byte_up (xs.getD k 0) hcb
            have HR := Lib.hid (And.intro (hox.set_ k ((xs.getD k 0 + 1) % 256)) (And.intro hxb (hkd.set (g := g) (fun ho => by have := HY.out.2.2 g ho; omega) (by have := KQ.out.below.size; omega) k (bv ((xs.getD k 0 + 1) % 256)))))
            unfold bv at HR
            generalize xs.getD k 0 = z at *
            clear hox hxb hkd
            go_wp2
            go_roundw
            case rel => exact ⟨k + 1, _, by omega, by go_num, HR.out.1, fun c hc => by rcases List.mem_or_eq_of_mem_set hc with h | h; exact HR.out.2.1 c h; subst h; exact Nat.mod_lt _ (by decide), HR.out.2.2⟩
            case measure => simp [intOf]; omega
          · have hkn : Hid (k = n) := by show _ = _; omega
            have KZ := Lib.hid hkd
            clear hox hxb hkd
            have hBz := KZ.out.below
            have hb2 := (HA.out.2.below HB1.out (Nat.le_refl _)).below (hBz.mono HB1.out.size) (Nat.le_refl _)
            have hbz := (hb2.more (B' := wr.heap.size) (Nat.le_trans HB1.out.size hBz.size))
            have C := KZ.out.write ⟨#[102]⟩ (by decide) b m d bs hbz (by omega) (fun hp k o hx ho => by
              obtain ⟨k', o', e', hlt', _⟩ := HA.out.2.at_ hp
              rw [hx] at e'
              injection e' with e'
              injection e' with e1' e2'
              have h5 := KZ.out.base k ho
              have h6 := HB1.out.size
              omega)
            rw [own_w2 us bs (by omega) (by omega)] at C
            have HC := Lib.hid C
            clear C hBz hb2 hbz
            go_wp2_with fail
            refine HC.out.mono ?_
            rintro e w8 ⟨rfl, hmv⟩
            obtain ⟨O8, k8, b8, f8⟩ := hmv.far
            have C := k8.read ⟨#[102]⟩ (by decide)
            rw [show fat (ownT ((f1 us).put (.string [102]) (.held ⟨us ++ bs, 0⟩))).D (⟨#[102]⟩ : ByteArray).data.toList = some ⟨us ++ bs, 0⟩ from own_f2 us bs] at C
            have HC := Lib.hid C
            have K8 := Lib.hid k8
            clear C hmv k8 b8 f8
            go_wp2_with fail
            refine HC.out.mono ?_
            rintro e w9 hN
            obtain ⟨z, zc, rfl, hzs, _, hb9⟩ := NewBytes.out K8.out hN (bs := us ++ bs) (fun c hc => by rcases List.mem_append.1 hc with h | h; exact HA.out.1.byte c h; exact HA.out.2.byte c h)
            have hB9 : Below w0.heap.size w0 w9 := HB1.out.trans ((K8.out.on hb9).below.mono HB1.out.size)
            have kz : (convert 31 9 (.slice z (us ++ bs).length zc)).run Try.prog w9 = .ok (.string (strOf us ++ strOf bs)) w9 := by
              rw [← strOf_append]
              exact run_str hzs 31 5 9 Try.underlying31 Try.underlying5 Try.underlying9
            have ka : (convert 31 9 (.slice a n c)).run Try.prog w9 = .ok (.string (strOf us)) w9 := run_str (HA.out.1.below hB9 (Nat.le_refl _)) 31 5 9 Try.underlying31 Try.underlying5 Try.underlying9
            have kb : (convert 31 9 (.slice b m d)).run Try.prog w9 = .ok (.string (strOf bs)) w9 := run_str (HA.out.2.below hB9 (Nat.le_refl _)) 31 5 9 Try.underlying31 Try.underlying5 Try.underlying9
            have HE := Lib.hid hB9
            rw [List.length_append, hal, hbl] at kz
            have hov : ¬ 9223372036854775807 < (strOf us).size + (strOf bs).size := by rw [strOf_size, strOf_size]; omega
            clear hN hzs hb9 hB9 HC
            go_wp2
            go_ret
            exact ⟨rfl, HE.out⟩
  · by_cases hn : n ≤ 9000
    · have hm : ¬ m ≤ 9000 := fun h => hg ⟨hn, h⟩
      clear hg
      go_enter Try.func8, Try.ntmps8
      go_wp2_with fail
      refine HD.out.mono ?_
      rintro e w1 ⟨rfl, hb1⟩
      have N1 := Lib.hid (DK.new 1048576 (by decide) w1)
      have HB1 := Lib.hid hb1
      clear hb1 HD
      go_wp2_with fail
      refine N1.out.mono ?_
      rintro e w2 ⟨dp, O, rfl, _, hb2, _⟩
      have HE := Lib.hid (HB1.out.trans (hb2.mono HB1.out.size))
      clear hb2 N1
      go_wp2
      go_ret
      exact ⟨rfl, HE.out⟩
    · clear hg
      go_enter Try.func8, Try.ntmps8
      go_wp2_with fail
      refine HD.out.mono ?_
      rintro e w1 ⟨rfl, hb1⟩
      have N1 := Lib.hid (DK.new 1048576 (by decide) w1)
      have HB1 := Lib.hid hb1
      clear hb1 HD
      go_wp2_with fail
      refine N1.out.mono ?_
      rintro e w2 ⟨dp, O, rfl, _, hb2, _⟩
      have HE := Lib.hid (HB1.out.trans (hb2.mono HB1.out.size))
      clear hb2 N1
      go_wp2
      go_ret
      exact ⟨rfl, HE.out⟩
end Go.Proofs.Yticjnjonhdcciaa

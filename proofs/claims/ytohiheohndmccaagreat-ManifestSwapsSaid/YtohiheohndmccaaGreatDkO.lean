/- Contracts of the program's disk: kept; what Crash leaves. Contracts of the program's disk: Crash. A disk that a call has made: its calls, one behind the other. -/
import Derived.Test.YtohiheohndmccaaGreatDkL
import Derived.Test.YtohiheohndmccaaGreatInts
import Derived.StillTailTactics
namespace Go.Proofs.YtohiheohndmccaaGreat
set_option linter.unusedSimpArgs false
section
open Go.RowKit Go.Sort
open Go.Maps
attribute [local go_sem] Oper.semAt_some

/-- How many more are kept. -/
def keptV (ks : List Int) (i : Nat) (most : Int) : Int := if i < ks.length then min (max (ks.getD i 0) 0) most else 0
theorem keptV_le (ks : List Int) (i : Nat) {most : Int} (h : 0 ≤ most) : 0 ≤ keptV ks i most ∧ keptV ks i most ≤ most := by unfold keptV; split <;> omega
theorem kept_any (ks : List Int) (a : Option Addr) (n c : Nat) (i : Nat) (most : Int) (B : Nat) (w : World) (hr : Row w B a n c 1 (intsC ks)) (hn : ks.length = n) (hi : i ≤ 9223372036854775807) :
    Calls Tryz.prog 64 #[.slice a n c, .int .i64 (i : Int), .int .i64 most] w fun e w' => e = .returned (.int .i64 (keptV ks i most)) ∧ w = w' := by
  by_cases hlt : i < n
  · obtain ⟨b, o, rfl, _, hc⟩ := hr.at_ (by omega)
    have c1 := hc i (by omega)
    simp only [intsC] at c1
    have hk : Hid (keptV ks i most = min (max (ks.getD i 0) 0) most) := by show _ = _; unfold keptV; rw [if_pos (by omega)]
    have m1 := fun (x : World) => max2_any (ks.getD i 0) 0 x
    have m2 := fun (y : Int) (x : World) => min2i_any y most x
    generalize ks.getD i 0 = z at *
    generalize keptV ks i most = r at *
    clear hc hr hi
    go_enter Tryz.func64, Tryz.ntmps64
    go_wp2
    go_ret
    exact ⟨ret_i64 hk.out.symm, rfl⟩
  · have hk : Hid (keptV ks i most = 0) := by show _ = _; unfold keptV; rw [if_neg (by omega)]
    generalize keptV ks i most = r at *
    clear hr hi
    go_enter Tryz.func64, Tryz.ntmps64
    go_wp2
    go_ret
    exact ⟨ret_i64 hk.out.symm, rfl⟩

/-- What a crash leaves of a file. -/
def crM (ks : List Int) (i : Nat) (f : Fl) : Nat := f.l + (keptV ks i ((f.bs.length : Int) - (f.l : Int))).toNat
def crF (ks : List Int) (i : Nat) (f : Fl) : Fl := ⟨f.bs.take (crM ks i f), crM ks i f⟩
theorem crM_le (ks : List Int) (i : Nat) {f : Fl} (h : f.l ≤ f.bs.length) : f.l ≤ crM ks i f ∧ crM ks i f ≤ f.bs.length := by
  have := keptV_le ks i (most := (f.bs.length : Int) - (f.l : Int)) (by omega)
  unfold crM
  omega
def crD1 (ks : List Int) (i : Nat) : DataW Fl → DataW Fl
  | .held f => .held (crF ks i f)
  | d => d
/-- .. of the first k files. -/
def crE (ks : List Int) (k : Nat) (es : List (Lit × DataW Fl)) : List (Lit × DataW Fl) := es.mapIdx fun i p => if i < k then (p.1, crD1 ks i p.2) else p
def crD (ks : List Int) (k : Nat) : FS → FS
  | .map es => .map (crE ks k es)
  | d => d
theorem crE_keys (ks : List Int) (k : Nat) (es : List (Lit × DataW Fl)) : (crE ks k es).map (·.1) = es.map (·.1) := by
  unfold crE
  apply List.ext_getElem (by simp)
  intro i h1 h2
  simp only [List.getElem_mapIdx, List.getElem_map]
  split <;> rfl
theorem crE_zero (ks : List Int) (es : List (Lit × DataW Fl)) : crE ks 0 es = es := by
  unfold crE
  apply List.ext_getElem (by simp)
  intro i h1 h2
  simp
theorem crD_zero (ks : List Int) (D : FS) : crD ks 0 D = D := by cases D <;> simp [crD, crE_zero]
theorem keysL_crD (ks : List Int) (k : Nat) (D : FS) : keysL (crD ks k D) = keysL D := by cases D <;> simp [crD, keysL, crE_keys]
theorem crE_get (ks : List Int) (k : Nat) (es : List (Lit × DataW Fl)) (j : Nat) : (crE ks k es)[j]? = es[j]?.map fun p => if j < k then (p.1, crD1 ks j p.2) else p := by
  unfold crE
  rw [List.getElem?_mapIdx]
theorem canon_keys {D E : FS} (h : Canon D) (hm : IsMap E) (hk : keysL E = keysL D) : Canon E := by
  obtain ⟨es, rfl, h1, h2⟩ := h
  obtain ⟨es', rfl⟩ := hm
  have hk : es'.map (·.1) = es.map (·.1) := hk
  refine ⟨es', rfl, ?_, fun p hp => ?_⟩
  · have : (es.map (·.1)).Pairwise (fun a b : Lit => a.before b = true) := List.pairwise_map.2 h1
    rw [← hk] at this
    exact List.pairwise_map.1 this
  · have : p.1 ∈ es'.map (·.1) := List.mem_map.2 ⟨p, hp, rfl⟩
    rw [hk] at this
    obtain ⟨q, hq, e⟩ := List.mem_map.1 this
    rw [← e]
    exact h2 q hq
theorem canon_crD (ks : List Int) (k : Nat) {D : FS} (h : Canon D) : Canon (crD ks k D) := by
  refine canon_keys h ?_ (keysL_crD ks k D)
  obtain ⟨es, rfl, _⟩ := h
  exact ⟨_, rfl⟩
/-- The j-th entry is found by its key. -/
theorem look_idx {D : FS} (h : Canon D) {j : Nat} {p : Lit × DataW Fl} {es : List (Lit × DataW Fl)} (hD : D = .map es) (hp : es[j]? = some p) : look D p.1 = some p.2 := by
  subst hD
  obtain ⟨es', e, h1, h2⟩ := h
  injection e with e
  subst e
  have hm : p ∈ es := List.mem_of_getElem? hp
  have h3 : (DataW.map es).atKey p.1 .nil = p.2 := WideAt.atKey_mem .nil (h2 p hm) (apart_of_rising h1) hm
  have h4 : has (.map es) p.1 = true := List.any_eq_true.2 ⟨p, hm, WideAt.sameKey_self (h2 p hm)⟩
  rw [has_look] at h4
  rw [atKey_look] at h3
  obtain ⟨d, hd⟩ := Option.isSome_iff_exists.1 h4
  rw [hd] at h3 ⊢
  rw [← h3]
  rfl
theorem look_crE (ks : List Int) (k : Nat) {es : List (Lit × DataW Fl)} (h : Canon (.map es : FS)) {j : Nat} {q : Lit × DataW Fl} (hq : es[j]? = some q) : look (crD ks k (.map es)) q.1 = some (if j < k then crD1 ks j q.2 else q.2) := by
  have e := crE_get ks k es j
  rw [hq, Option.map_some] at e
  have l := look_idx (canon_crD ks k h) (es := crE ks k es) rfl e
  by_cases hj : j < k
  · simp only [if_pos hj] at l ⊢
    exact l
  · simp only [if_neg hj] at l ⊢
    exact l
/-- What a crash leaves of the j-th name. -/
theorem fat_crD {room : Nat} (ks : List Int) (k : Nat) {D : FS} (h : Good D room) {j : Nat} {s : List UInt8} {f : Fl} (hs : (strKeys D)[j]? = some s) (hf : fat D s = some f) : fat (crD ks k D) s = some (if j < k then crF ks j f else f) := by
  obtain ⟨es, rfl, h1, h2⟩ := h.canon
  have hs : (es.map fun p => Go.strOf p.1)[j]? = some s := hs
  rw [List.getElem?_map] at hs
  obtain ⟨p, hp, e⟩ := Option.map_eq_some_iff.1 hs
  obtain ⟨x, hx⟩ := h.strs p.1 (List.any_eq_true.2 ⟨p, List.mem_of_getElem? hp, WideAt.sameKey_self (h2 p (List.mem_of_getElem? hp))⟩)
  have hxs : x = s := by rw [hx] at e; exact e
  subst hxs
  have l1 := look_idx h.canon rfl hp
  rw [hx, h.look_, hf] at l1
  have hd : p.2 = .held f := by injection l1 with l1; exact l1.symm
  have l2 := look_crE ks k h.canon hp
  rw [hx, hd] at l2
  unfold fat
  rw [l2]
  by_cases hjk : j < k
  · rw [if_pos hjk, if_pos hjk]; rfl
  · rw [if_neg hjk, if_neg hjk]
theorem names_mem {D : FS} {room : Nat} (h : Good D room) (s : List UInt8) : s ∈ strKeys D ↔ (fat D s).isSome = true := by
  rw [strKeys_keysL, List.mem_map, ← h.has_, ← keysL_mem h.canon]
  constructor
  · rintro ⟨k, hk, rfl⟩
    obtain ⟨x, rfl⟩ := h.strs k ((keysL_mem h.canon k).1 hk)
    exact hk
  · intro hk
    exact ⟨_, hk, rfl⟩
theorem names_crD (ks : List Int) (k : Nat) (D : FS) : strKeys (crD ks k D) = strKeys D := by rw [strKeys_keysL, strKeys_keysL, keysL_crD]
theorem crD_succ {room : Nat} (ks : List Int) (k : Nat) {D : FS} (h : Good D room) {s : List UInt8} {f : Fl} (hs : (strKeys D)[k]? = some s) (hf : fat D s = some f) : crD ks (k + 1) D = (crD ks k D).put (.string s) (.held (crF ks k f)) := by
  have hc := canon_crD ks k h.canon
  have hstr : ∀ key, has (crD ks k D) key = true → ∃ l, key = .string l := fun key hk => h.strs key (by rw [← keysL_mem h.canon, ← keysL_crD ks k]; exact (keysL_mem hc key).2 hk)
  refine look_ext (canon_crD ks (k + 1) h.canon) (canon_put hc hstr s _) (fun key => ?_)
  obtain ⟨es, rfl, h1, h2⟩ := h.canon
  have hn : (es.map fun p => Go.strOf p.1)[k]? = some s := hs
  rw [List.getElem?_map] at hn
  obtain ⟨p, hp, e⟩ := Option.map_eq_some_iff.1 hn
  obtain ⟨x, hx⟩ := h.strs p.1 (List.any_eq_true.2 ⟨p, List.mem_of_getElem? hp, WideAt.sameKey_self (h2 p (List.mem_of_getElem? hp))⟩)
  have hxs : x = s := by rw [hx] at e; exact e
  subst hxs
  have l1 := look_idx h.canon rfl hp
  rw [hx, h.look_, hf] at l1
  have hd : p.2 = .held f := by injection l1 with l1; exact l1.symm
  by_cases hk : key = .string x
  · subst hk
    rw [look_put_same (canon_map hc) (isKey_str x)]
    have l2 := look_crE ks (k + 1) h.canon hp
    rw [if_pos (by omega), hx, hd] at l2
    exact l2
  · rw [look_put_other hk]
    cases hl : look (crD ks k (.map es)) key with
    | none =>
      have h5 : has (crD ks (k + 1) (.map es)) key = false := by
        cases hb : has (crD ks (k + 1) (.map es)) key
        · rfl
        · have h6 := (keysL_mem (canon_crD ks (k + 1) h.canon) key).2 hb
          rw [keysL_crD, ← keysL_crD ks k] at h6
          have h7 := (keysL_mem hc key).1 h6
          rw [has_look, hl] at h7
          cases h7
      rw [has_look] at h5
      cases hq : look (crD ks (k + 1) (.map es)) key with
      | none => rfl
      | some _ => rw [hq] at h5; cases h5
    | some d =>
      have h6 : has (crD ks k (.map es)) key = true := by rw [has_look, hl]; rfl
      have h7 := (keysL_mem hc key).2 h6
      rw [keysL_crD] at h7
      obtain ⟨q, hq, e⟩ := List.mem_map.1 (show key ∈ es.map (·.1) from h7)
      obtain ⟨j, hj⟩ := List.getElem?_of_mem hq
      have hjk : j ≠ k := fun e' => by
        subst e'
        rw [hp] at hj
        injection hj with hj
        subst hj
        exact hk (e.symm.trans hx)
      have a1 := look_crE ks k h.canon hj
      have a2 := look_crE ks (k + 1) h.canon hj
      rw [e] at a1 a2
      rw [a2, ← hl, a1]
      by_cases hlt : j < k
      · rw [if_pos hlt, if_pos (by omega)]
      · rw [if_neg hlt, if_neg (by omega)]
/-- Behind all, there's no more. -/
theorem OwnB.cut {w : World} {e : TypeId} {a : Option Addr} {n c : Nat} {bs : List Nat} (h : OwnB w 0 e (.slice a n c) bs) {m : Nat} (hm : m ≤ n) : OwnB w 0 e (.slice a m c) (bs.take m) := by
  have hn := own_len h
  have hl : (bs.take m).length = m := by rw [List.length_take]; omega
  unfold OwnB
  rw [hl]
  refine ⟨by simp; omega, ?_⟩
  rcases h.2 with ⟨h', _⟩ | ⟨g, cap, cur, h', hb, hh, h1, h2, h3, h4⟩
  · injection h' with e1 e2 e3
    subst e1 e3
    have : m = 0 := by omega
    subst this
    exact .inl ⟨rfl, rfl⟩
  · injection h' with e1 e2 e3
    subst e1 e3
    refine .inr ⟨g, c, cur, rfl, hb, hh, by omega, h2, h3, ?_⟩
    rw [List.map_take, ← h4, List.take_take]
    congr 1
    omega
theorem good_cr {D : FS} {room : Nat} (h : Good D room) {s : List UInt8} {f : Fl} (hf : fat D s = some f) (ks : List Int) (i : Nat) : Good (D.put (.string s) (.held (crF ks i f))) room := by
  obtain ⟨h0, h1, h2, _⟩ := h.at_ hf
  have hm := crM_le ks i h1
  refine h.put h0 (by simp [crF]; omega) (fun c hc => h2 c (List.mem_of_mem_take hc)) (.inl (by rw [hf]; rfl)) ?_
  rw [hf]
  have := h.tot_
  simp [crF]
  omega
end
section
open Go.RowKit Go.Sort
open Go.Maps
attribute [local go_sem] Oper.semAt_some

def St.crash (t : St) (ks : List Int) : St := ⟨crD ks (size t.D) t.D, t.room, -1, 0⟩
theorem Row.but {O : Nat → Prop} {w w' : World} {a : Option Addr} {n c m : Nat} {cs : Nat → Value} (h : Row w w.heap.size a n c m cs) (hb : But O w w') (hfar : 0 < n → ∀ k o, a = some ⟨k, o, none⟩ → ¬ O k) : Row w' w'.heap.size a n c m cs :=
  ⟨h.le, h.max, fun hp => by
    obtain ⟨b, o, e, hlt, hc⟩ := h.at_ hp
    exact ⟨b, o, e, Nat.lt_of_lt_of_le hlt hb.size, fun k hk => (hb.cell hlt (hfar hp b o e)).trans (hc k hk)⟩⟩
theorem block_len (a : Option Addr) (n n' c : Nat) : (Value.slice a n c).ownBlock = (Value.slice a n' c).ownBlock := by cases a <;> rfl
theorem orO {O : Nat → Prop} {v : Option Nat} (h : ∀ k, v = some k → O k) : (fun k => O k ∨ v = some k) = O := by
  funext k
  exact propext ⟨fun hk => hk.elim id (h k), .inl⟩
theorem row_alloc {w : World} {a : Option Addr} {n c m : Nat} {cs : Nat → Value} (h : Row w w.heap.size a n c m cs) (o : Obj) : Row (w.alloc o) w.heap.size a n c m cs := h.below ((Below.refl w.heap.size w).alloc (Nat.le_refl _) o) (Nat.le_refl _)
theorem row_drew {w : World} {B : Nat} {a : Option Addr} {n c m : Nat} {cs : Nat → Value} (h : Row w B a n c m cs) : Row w.drew B a n c m cs := ⟨h.le, h.max, h.at_⟩
theorem row_set {w : World} {B : Nat} {a : Option Addr} {n c m : Nat} {cs : Nat → Value} (h : Row w B a n c m cs) (p : Addr) (hp : B ≤ p.block) (u : Value) : Row (w.setCell p u) B a n c m cs := h.below ((Below.refl B w).setCell hp u) (Nat.le_refl _)

set_option linter.unusedSimpArgs false in
set_option maxRecDepth 100000 in
set_option maxHeartbeats 3200000 in
theorem crash_any {w : World} {dp : Nat} {t : St} {O : Nat → Prop} (h : IsD w dp t O) (ks : List Int) (a : Option Addr) (n c : Nat) (hr : Row w w.heap.size a n c 1 (intsC ks)) (hn : ks.length = n) (hfar : 0 < n → ∀ k o, a = some ⟨k, o, none⟩ → ¬ O k) :
    Calls Tryz.prog 29 #[.pointer (some ⟨dp, 0, none⟩), .slice a n c] w (Turns w dp O (t.crash ks)) := by
  obtain ⟨mb, C, h⟩ := h
  have LS := Lib.hid (list_any h)
  have hO := h.lt
  have hgood := h.good
  have hz := h.good.size_
  have hnz : Hid ((strKeys t.D).length = size t.D) := size_names t.D
  have HH := Lib.hid (And.intro h (And.intro hr (And.intro hfar (And.intro hgood hO))))
  clear h hr hfar hgood hO
  go_enter Tryz.func29, Tryz.ntmps29
  go_wp2_with fail
  refine LS.out.mono ?_
  rintro e w0 ⟨g, nc, rfl, how, hb0⟩
  have hgb : w.heap.size ≤ g ∧ g < w0.heap.size := by
    rcases how.2 with ⟨h', _⟩ | ⟨g', cap', cur, h', h1, h2, _⟩
    · cases h'
    · injection h' with h'; injection h' with h'; injection h' with h'; subst h'; exact ⟨h1, lt_of_heap h2⟩
  have HN := Lib.hid (And.intro how hb0)
  clear how hb0 LS
  generalize hL : (strKeys t.D).length = L at *
  have HLn := Lib.hid hL
  have hLz : L ≤ 64 := by have := hnz.out; omega
  clear hL
  go_wp2_with fail
  go_loopw [10] (fun i wr => ∃ k : Nat, k ≤ L ∧ i = .int .i64 (k : Int) ∧ (∃ mb C, DskC wr dp mb C (crD ks k t.D) t.room t.fuse t.fails O) ∧ But O w0 wr) (fun i _ => L - (intOf i).toNat)
  case atStart => exact ⟨0, Nat.zero_le _, rfl, ⟨mb, C, by rw [crD_zero]; exact HH.out.1.below HN.out.2⟩, But.refl _ _⟩
  case round =>
    obtain ⟨k, hk, rfl, ⟨mb', C', hd⟩, hbt⟩ := hrel
    by_cases hlt : k < L
    · obtain ⟨_, hr0, hfar0, hG0, hO0⟩ := HH.out
      obtain ⟨s, hs⟩ : ∃ s, (strKeys t.D)[k]? = some s := ⟨_, List.getElem?_eq_getElem (by rw [HLn.out]; exact hlt)⟩
      obtain ⟨f, hf⟩ : ∃ f, fat t.D s = some f := Option.isSome_iff_exists.1 ((names_mem hG0 s).1 (List.mem_of_getElem? hs))
      have hfk : fat (crD ks k t.D) s = some f := by rw [fat_crD ks k hG0 hs hf, if_neg (by omega)]
      have hat := hG0.at_ hf
      have hsz : s.length ≤ 16 := by
        have := hat.1
        unfold nmOk at this
        simp at this
        omega
      have hgO : ¬ O g := fun ho => by have := hO0 g ho; omega
      have u0 : wr.cell? ⟨g, k, none⟩ = some (.string ⟨s.toArray⟩) := (hbt.cell hgb.2 hgO).trans (by
        rw [HN.out.1.cellAt k (by omega), List.getElem?_map, hs]; rfl)
      have c0 := hd.cell.1
      have hbs : (⟨s.toArray⟩ : ByteArray).size ≤ 281474976710656 := by show s.toArray.size ≤ _; simp; omega
      have hda : (⟨s.toArray⟩ : ByteArray).data.toList = s := by simp
      have LK := (hd.files.run_look (s := ⟨s.toArray⟩) (by unfold maxLen; omega) wr rfl).1
      rw [hda] at LK
      obtain ⟨f1, f2, f3, f4, f5, f6, f7, f8⟩ := hd.file_ s
      rw [hfk] at f1 f2 f3 f4 f5
      simp only [Option.getD_some] at f1 f2 f3 f4 f5
      have hnl := own_len f2
      have hm := crM_le ks k hat.2.1
      have hsub : Hid (crM ks k f = f.l + (keptV ks k (((cat C' (.string s)).n : Int) - (f.l : Int))).toNat) := by show _ = _; unfold crM; rw [hnl]
      have hq := keptV_le ks k (most := ((cat C' (.string s)).n : Int) - (f.l : Int)) (by omega)
      have hgc : Good ((crD ks k t.D).put (.string s) (.held ⟨f.bs.take (crM ks k f), crM ks k f⟩)) t.room := good_cr hd.good hfk ks k
      have hsucc : crD ks (k + 1) t.D = (crD ks k t.D).put (.string s) (.held ⟨f.bs.take (crM ks k f), crM ks k f⟩) := crD_succ ks k hG0 hs hf
      have hrw := ((hr0.below HN.out.2 (Nat.le_refl _)).more HN.out.2.size).but hbt hfar0
      unfold Fe.val at LK
      generalize crM ks k f = m at *
      generalize hfe : cat C' (.string s) = fe at *
      have w1 : IntKind.i64.wrap ((fe.n : Int) - (f.l : Int)) = (fe.n : Int) - (f.l : Int) := by rw [IntKind.wrap_i64]; omega
      generalize hqv : keptV ks k ((fe.n : Int) - (f.l : Int)) = q at *
      have w2 : IntKind.i64.wrap ((f.l : Int) + q) = (m : Int) := by rw [IntKind.wrap_i64]; have := hsub.out; omega
      have hmn : m ≤ fe.n := by omega
      have hmc : m ≤ fe.c := by
        rcases f2.2 with ⟨h', h0⟩ | ⟨g', cap', cur, h', _, _, h3, _⟩
        · unfold Fe.sl at h'; injection h' with _ h2' _; omega
        · unfold Fe.sl at h'; injection h' with _ h2' h3'; omega
      rw [f1] at LK
      have KT := Lib.hid (fun (x : World) (hx : Row x wr.heap.size a n c 1 (intsC ks)) => by have := kept_any ks a n c k ((fe.n : Int) - (f.l : Int)) wr.heap.size x hx hn (by omega); rw [hqv] at this; exact this)
      have cc : ∀ w, (Instr.slice 32 (.slice fe.a fe.n fe.c) none (some (.int .i64 (m : Int))) none).run Tryz.prog w = .ok (.slice fe.a m fe.c) w :=
        run_cut_to (P := Tryz.prog) 32 5 Tryz.underlying32 info_u8 fe.a fe.n fe.c m hmc
      have HB : Below wr.heap.size wr (wr.alloc (.cells #[.slice fe.a m fe.c, .int .i64 (m : Int)] 72)).drew := Below.drew ((Below.refl _ _).alloc (Nat.le_refl _) _)
      have LY := Lib.hid (lay_any ⟨s.toArray⟩ ((hd.below HB).x (⟨s.toArray⟩ : ByteArray).data.toList) hbs ⟨fe.a, m, fe.c, (m : Int)⟩ ⟨f.bs.take m, m⟩ rfl ((OwnB.cut f2 hmn).below HB)
        (fun k' f' b hk' hl hb => by rw [hda] at hk'; exact f6 k' f' b hk' hl ((block_len fe.a fe.n m fe.c).trans hb)) (fun b hb => (f7 b ((block_len fe.a fe.n m fe.c).trans hb)).2) (by rw [hda]; exact hgc))
      have HR := Lib.hid (And.intro hd (And.intro hbt (And.intro f7 (And.intro hsucc hrw))))
      clear hd hbt f1 f2 f3 f4 f5 f6 f7 f8 hr0 hfar0 hG0 hO0 hs hf hfk hat hsub hgc hsucc hfe hqv hq hm hnl hrw
      go_wp2_with fail
      obtain ⟨b0, b1⟩ := cells2 wr (.slice fe.a fe.n fe.c) (.int .i64 (f.l : Int)) 72
      have RW := row_drew (row_alloc HR.out.2.2.2.2 (.cells #[.slice fe.a fe.n fe.c, .int .i64 (f.l : Int)] 72))
      refine wp_region_still_tail 13 (by kernel_rfl) (by kernel_rfl) ?_
      change wpStill _ _ (wr.alloc (.cells #[.slice fe.a fe.n fe.c, .int .i64 (f.l : Int)] 72)).drew (fun a' => wpList _ _ _ _ a' (wr.alloc (.cells #[.slice fe.a fe.n fe.c, .int .i64 (f.l : Int)] 72)).drew) _ _
      have d0 : (wr.alloc (.cells #[.slice fe.a fe.n fe.c, .int .i64 (f.l : Int)] 72)).drew.cell? ⟨wr.heap.size, 0, none⟩ = some (.slice fe.a fe.n fe.c) := b0
      have d1 : (wr.alloc (.cells #[.slice fe.a fe.n fe.c, .int .i64 (f.l : Int)] 72)).drew.cell? ⟨wr.heap.size, 1, none⟩ = some (.int .i64 (f.l : Int)) := b1
      obtain ⟨Y, hY⟩ : ∃ Y, Y = (wr.alloc (.cells #[.slice fe.a fe.n fe.c, .int .i64 (f.l : Int)] 72)).drew := ⟨_, rfl⟩
      rw [← hY] at d0 d1 RW ⊢
      have HY := Lib.hid hY
      clear hY b0 b1
      simp only [List.take_succ_cons, List.take_zero, List.drop_succ_cons, List.drop_zero]
      repeat still_step
      still_call ((KT.out Y RW).mono fun e w' h => ⟨h.1, h.2.symm⟩)
      repeat still_step
      refine wpStill_nil ?_
      have hY := HY.out
      subst hY
      clear HY RW d0 d1
      go_wp2_with fail
      refine LY.out.mono ?_
      rintro e w6 hL
      have he := hL.1
      subst he
      have HL := Lib.hid hL
      have HB' := Lib.hid HB
      clear hL LY HB KT
      go_wp2
      go_roundw
      case rel =>
        obtain ⟨hd, hbt, f7, hsucc, _⟩ := HR.out
        refine ⟨k + 1, by omega, by go_num, ⟨mb', C'.put (.string s) (.held ⟨fe.a, m, fe.c, (m : Int)⟩), ?_⟩, (hbt.trans (But.of_below (O := O) HB'.out) (fun _ hi => .inl hi)).trans HL.out.2.2 (fun _ hi => .inl hi)⟩
        have h6 := HL.out.2.1
        rw [orO (v := (⟨fe.a, m, fe.c, (m : Int)⟩ : Fe).sl.ownBlock) (fun k' hb => (f7 k' ((block_len fe.a fe.n m fe.c).trans hb)).1)] at h6
        rw [hsucc]
        exact h6
      case measure => simp [intOf]; omega
    · have hkL : k = L := by omega
      subst hkL
      have hfz := hd.fuse_
      have hfl := hd.fails_
      have h1 := hd.set_ 2 (.int .i64 (-1)) (fuse' := -1) (fails' := t.fails) rfl (by decide) hd.fails_
      have h2 := h1.set_ 3 (.int .i64 0) (fuse' := -1) (fails' := 0) rfl (by decide) (by decide)
      have z := hd.cell.2.2.2.2
      have z2 := z 2
      have z3 := z 3
      have c2 := hd.cell.2.2.1
      have c3 := hd.cell.2.2.2.1
      have hB : But O w ((wr.setCell ⟨dp, 2, none⟩ (.int .i64 (-1))).setCell ⟨dp, 3, none⟩ (.int .i64 0)) := (((But.of_below (O := O) HN.out.2).trans hbt (fun _ hi => .inl hi)).setCell (p := ⟨dp, 2, none⟩) (.inl hd.dpO) _).setCell (p := ⟨dp, 3, none⟩) (.inl hd.dpO) _
      have HE := Lib.hid (And.intro h2 (And.intro hB hnz.out))
      clear hd hbt h1 h2 z hB hfz hfl
      go_wp2
      go_end0
      refine ⟨rfl, ⟨mb', C', ?_⟩, HE.out.2.1⟩
      have h2 := HE.out.1
      rw [HE.out.2.2] at h2
      exact h2
end
section
open Go.RowKit Go.Sort
open Go.Maps

/-- A disk that lies behind all that was there in w0. -/
structure DK (w0 w : World) (dp : Nat) (t : St) (O : Nat → Prop) : Prop where
  is : IsD w dp t O
  base : ∀ k, O k → w0.heap.size ≤ k
  below : Below w0.heap.size w0 w
theorem DK.on {w0 w w' : World} {dp : Nat} {t : St} {O : Nat → Prop} (h : DK w0 w dp t O) (hb : Below w.heap.size w w') : DK w0 w' dp t O :=
  ⟨Dsk.below h.is hb, h.base, h.below.trans (hb.mono h.below.size)⟩
theorem DK.lt {w0 w : World} {dp : Nat} {t : St} {O : Nat → Prop} (h : DK w0 w dp t O) : ∀ k, O k → k < w.heap.size := Dsk.lt h.is
theorem DK.good {w0 w : World} {dp : Nat} {t : St} {O : Nat → Prop} (h : DK w0 w dp t O) : Good t.D t.room := Dsk.good h.is
/-- What a call of it leaves. -/
def Mv (w0 w : World) (dp : Nat) (O : Nat → Prop) (t : St) (w' : World) : Prop := ∃ O', DK w0 w' dp t O' ∧ But O w w' ∧ ∀ k, O' k → O k ∨ w.heap.size ≤ k
theorem Mv.of {w0 w w' : World} {dp : Nat} {O O' : Nat → Prop} {t t' : St} (h : DK w0 w dp t O) (hi : IsD w' dp t' O') (hb : But O w w') (hO : ∀ k, O' k → O k ∨ w.heap.size ≤ k) : Mv w0 w dp O t' w' :=
  ⟨O', ⟨hi, fun k hk => by rcases hO k hk with h1 | h1; exact h.base k h1; exact Nat.le_trans h.below.size h1, h.below.trans (hb.below h.below.size h.base)⟩, hb, hO⟩
/-- What isn't the disk's stays so. -/
theorem Mv.far {w0 w w' : World} {dp : Nat} {O : Nat → Prop} {t : St} (h : Mv w0 w dp O t w') : ∃ O', DK w0 w' dp t O' ∧ But O w w' ∧ ∀ k, k < w.heap.size → ¬ O k → ¬ O' k := by
  obtain ⟨O', h1, h2, h3⟩ := h
  exact ⟨O', h1, h2, fun k hk hn ho => by rcases h3 k ho with h4 | h4; exact hn h4; omega⟩
section
variable {w0 w : World} {dp : Nat} {t : St} {O : Nat → Prop}
theorem DK.new (room : Nat) (hr : room ≤ 1048576) (w : World) : Calls Tryz.prog 5 #[.int .i64 (room : Int)] w fun e w' => ∃ dp O, e = .returned (.pointer (some ⟨dp, 0, none⟩)) ∧ DK w w' dp ⟨.map [], room, -1, 0⟩ O ∧ Below w.heap.size w w' ∧ ∀ k, O k → w.heap.size ≤ k :=
  (new_yes room hr w).mono fun e w' ⟨h1, h2, h3⟩ => ⟨_, _, h1, ⟨h3, fun k hk => by rcases hk with rfl | rfl <;> omega, h2⟩, h2, fun k hk => by rcases hk with rfl | rfl <;> omega⟩
theorem DK.tells (h : DK w0 w dp t O) {r : Int × St} {e : Ending} {w' : World} (hT : Tells1 (Left w dp O r) e w') : e = .returned (.int .i64 r.1) ∧ Mv w0 w dp O r.2 w' := by
  obtain ⟨x, rfl, rfl, O', h1, h2, h3⟩ := hT
  exact ⟨rfl, Mv.of h h1 h2 h3⟩
theorem DK.write (h : DK w0 w dp t O) (s : ByteArray) (hs : s.size ≤ 281474976710656) (a : Option Addr) (n c : Nat) (b : List Nat) (hsl : Sl w w.heap.size a n c b) (hn : n ≤ 140737488351232) (hfar : 0 < n → ∀ k o, a = some ⟨k, o, none⟩ → ¬ O k) :
    Calls Tryz.prog 30 #[.pointer (some ⟨dp, 0, none⟩), .string s, .slice a n c] w fun e w' => e = .returned (.int .i64 (t.write s.data.toList b).1) ∧ Mv w0 w dp O (t.write s.data.toList b).2 w' :=
  (write_any h.is s hs a n c b hsl hn hfar).mono fun _ _ hT => h.tells hT
theorem DK.sync (h : DK w0 w dp t O) (s : ByteArray) (hs : s.size ≤ 281474976710656) :
    Calls Tryz.prog 25 #[.pointer (some ⟨dp, 0, none⟩), .string s] w fun e w' => e = .returned (.int .i64 (t.sync s.data.toList).1) ∧ Mv w0 w dp O (t.sync s.data.toList).2 w' :=
  (sync_any h.is s hs).mono fun _ _ hT => h.tells hT
theorem DK.delete (h : DK w0 w dp t O) (s : ByteArray) (hs : s.size ≤ 281474976710656) :
    Calls Tryz.prog 27 #[.pointer (some ⟨dp, 0, none⟩), .string s] w fun e w' => e = .returned (.int .i64 (t.delete s.data.toList).1) ∧ Mv w0 w dp O (t.delete s.data.toList).2 w' :=
  (delete_any h.is s hs).mono fun _ _ hT => h.tells hT
theorem DK.rename (h : DK w0 w dp t O) (s to : ByteArray) (hs : s.size ≤ 281474976710656) (ht : to.size ≤ 281474976710656) :
    Calls Tryz.prog 26 #[.pointer (some ⟨dp, 0, none⟩), .string s, .string to] w fun e w' => e = .returned (.int .i64 (t.rename s.data.toList to.data.toList).1) ∧ Mv w0 w dp O (t.rename s.data.toList to.data.toList).2 w' :=
  (rename_any h.is s hs to ht).mono fun _ _ hT => h.tells hT
theorem DK.turns (h : DK w0 w dp t O) {t' : St} {e : Ending} {w' : World} (hT : Turns w dp O t' e w') : e = .returned (.tuple #[]) ∧ Mv w0 w dp O t' w' :=
  ⟨hT.1, Mv.of h hT.2.1 hT.2.2 (fun _ hk => .inl hk)⟩
theorem DK.fuse (h : DK w0 w dp t O) (n : Int) (hn : n ≤ 9223372036854775807) : Calls Tryz.prog 28 #[.pointer (some ⟨dp, 0, none⟩), .int .i64 n] w fun e w' => e = .returned (.tuple #[]) ∧ Mv w0 w dp O (t.fuse_ n) w' :=
  (fuse_any h.is n hn).mono fun _ _ hT => h.turns hT
theorem DK.fail (h : DK w0 w dp t O) (n : Int) (hn : n ≤ 9223372036854775807) : Calls Tryz.prog 24 #[.pointer (some ⟨dp, 0, none⟩), .int .i64 n] w fun e w' => e = .returned (.tuple #[]) ∧ Mv w0 w dp O (t.fail_ n) w' :=
  (fail_any h.is n hn).mono fun _ _ hT => h.turns hT
theorem DK.crash (h : DK w0 w dp t O) (ks : List Int) (a : Option Addr) (n c : Nat) (hr : Row w w.heap.size a n c 1 (intsC ks)) (hn : ks.length = n) (hfar : 0 < n → ∀ k o, a = some ⟨k, o, none⟩ → ¬ O k) :
    Calls Tryz.prog 29 #[.pointer (some ⟨dp, 0, none⟩), .slice a n c] w fun e w' => e = .returned (.tuple #[]) ∧ Mv w0 w dp O (t.crash ks) w' :=
  (crash_any h.is ks a n c hr hn hfar).mono fun _ _ hT => h.turns hT
theorem DK.read (h : DK w0 w dp t O) (s : ByteArray) (hs : s.size ≤ maxLen) : Calls Tryz.prog 49 #[.pointer (some ⟨dp, 0, none⟩), .string s] w (NewBytes w ((fat t.D s.data.toList).getD Fl.zero).bs (fat t.D s.data.toList).isSome) := read_any h.is s hs
theorem DK.list (h : DK w0 w dp t O) : Calls Tryz.prog 16 #[.pointer (some ⟨dp, 0, none⟩)] w (NewNames w (strKeys t.D)) := by obtain ⟨mb, C, h1⟩ := h.is; exact list_any h1
theorem DK.used (h : DK w0 w dp t O) : Calls Tryz.prog 18 #[.pointer (some ⟨dp, 0, none⟩)] w fun e w' => e = .returned (.int .i64 ((tot t.D : Nat) : Int)) ∧ Below w.heap.size w w' := by obtain ⟨mb, C, h1⟩ := h.is; exact used_any h1
theorem DK.synced (h : DK w0 w dp t O) (s : ByteArray) (hs : s.size ≤ maxLen) : Calls Tryz.prog 20 #[.pointer (some ⟨dp, 0, none⟩), .string s] w fun e w' => e = .returned (.int .i64 (((fat t.D s.data.toList).getD Fl.zero).l : Int)) ∧ w = w' := by obtain ⟨mb, C, h1⟩ := h.is; exact synced_any h1 s hs
end
/-- Bytes of a literal that has just been made lie nowhere in the disk. -/
theorem lit_far {w0 w : World} {dp : Nat} {t : St} {O : Nat → Prop} (h : DK w0 w dp t O) {n : Nat} : 0 < n → ∀ k o, (some ⟨w.heap.size, 0, none⟩ : Option Addr) = some ⟨k, o, none⟩ → ¬ O k := by
  intro _ k o e ho
  injection e with e
  injection e with e1 e2
  have := h.lt k ho
  omega
theorem lit_sl (w : World) (bs : List Nat) (hb : ∀ c ∈ bs, c < 256) (hm : bs.length ≤ maxLen) : Sl (w.alloc (.cells ((bs.map bv).toArray) 5)) (w.alloc (.cells ((bs.map bv).toArray) 5)).heap.size (some ⟨w.heap.size, 0, none⟩) bs.length bs.length bs :=
  Sl.new (heap_alloc_new w _) rfl hb _ rfl hm
/-- New bytes read as such, and lie nowhere in the disk. -/
theorem NewBytes.out {w0 w w' : World} {dp : Nat} {t : St} {O : Nat → Prop} (h : DK w0 w dp t O) {bs : List Nat} {is : Bool} {e : Ending} (hN : NewBytes w bs is e w') (hb : ∀ c ∈ bs, c < 256) :
    ∃ a c, e = .returned (.tuple #[.slice a bs.length c, .bool is]) ∧ Sl w' w'.heap.size a bs.length c bs ∧ (0 < bs.length → ∀ k o, a = some ⟨k, o, none⟩ → ¬ O k ∧ w.heap.size ≤ k) ∧ Below w.heap.size w w' := by
  obtain ⟨a, c, he, ho, hB⟩ := hN
  obtain ⟨a', c', e1, hs, hbase⟩ := ho.sl_base hb
  injection e1 with e2 e3 e4
  subst e2 e4
  exact ⟨a, c, he, hs, fun _ k o hk => ⟨fun hO => by have := h.lt k hO; have := hbase k o hk; omega, hbase k o hk⟩, hB⟩
theorem fat_byte {D : FS} {room : Nat} (h : Good D room) (s : List UInt8) : ∀ c ∈ ((fat D s).getD Fl.zero).bs, c < 256 := by
  cases hf : fat D s with
  | none => intro c hc; cases hc
  | some f => exact (h.at_ hf).2.2.1
end
end Go.Proofs.YtohiheohndmccaaGreat

/- Contracts of the program's disk: kept; what Crash leaves. -/
import Derived.Test.YtohiheohndmccaaDkL
import Derived.Test.YtohiheohndmccaaInts
namespace Go.Proofs.Ytohiheohndmccaa
open Go.RowKit Go.Sort
open Go.Maps
attribute [local go_sem] Oper.semAt_some

/-- How many more are kept. -/
def keptV (ks : List Int) (i : Nat) (most : Int) : Int := if i < ks.length then min (max (ks.getD i 0) 0) most else 0
theorem keptV_le (ks : List Int) (i : Nat) {most : Int} (h : 0 ≤ most) : 0 ≤ keptV ks i most ∧ keptV ks i most ≤ most := by unfold keptV; split <;> omega
theorem kept_any (ks : List Int) (a : Option Addr) (n c : Nat) (i : Nat) (most : Int) (B : Nat) (w : World) (hr : Row w B a n c 1 (intsC ks)) (hn : ks.length = n) (hi : i ≤ 9223372036854775807) :
    Calls Try.prog 45 #[.slice a n c, .int .i64 (i : Int), .int .i64 most] w fun e w' => e = .returned (.int .i64 (keptV ks i most)) ∧ w = w' := by
  by_cases hlt : i < n
  · obtain ⟨b, o, rfl, _, hc⟩ := hr.at_ (by omega)
    have c1 := hc i (by omega)
    simp only [intsC] at c1
    have hk : Hid (keptV ks i most = min (max (ks.getD i 0) 0) most) := by show _ = _; unfold keptV; rw [if_pos (by omega)]
    have m1 := fun (x : World) => max2_any (ks.getD i 0) 0 x
    have m2 := fun (y : Int) (x : World) => min2i_any y most x
    generalize ks.getD i 0 = z at *
    generalize keptV ks i most = r at *
    clear hc hr hi
    go_enter Try.func45, Try.ntmps45
    go_wp2
    go_ret
    exact ⟨ret_i64 hk.out.symm, rfl⟩
  · have hk : Hid (keptV ks i most = 0) := by show _ = _; unfold keptV; rw [if_neg (by omega)]
    generalize keptV ks i most = r at *
    clear hr hi
    go_enter Try.func45, Try.ntmps45
    go_wp2
    go_ret
    exact ⟨ret_i64 hk.out.symm, rfl⟩

/-- What a crash leaves of a file. -/
def crM (ks : List Int) (i : Nat) (f : Fl) : Nat := f.l + (keptV ks i ((f.bs.length : Int) - (f.l : Int))).toNat
def crF (ks : List Int) (i : Nat) (f : Fl) : Fl := ⟨f.bs.take (crM ks i f), crM ks i f⟩
theorem crM_le (ks : List Int) (i : Nat) {f : Fl} (h : f.l ≤ f.bs.length) : f.l ≤ crM ks i f ∧ crM ks i f ≤ f.bs.length := by
  have := keptV_le ks i (most := (f.bs.length : Int) - (f.l : Int)) (by omega)
  unfold crM
  omega
def crD1 (ks : List Int) (i : Nat) : DataW Fl → DataW Fl
  | .held f => .held (crF ks i f)
  | d => d
/-- .. of the first k files. -/
def crE (ks : List Int) (k : Nat) (es : List (Lit × DataW Fl)) : List (Lit × DataW Fl) := es.mapIdx fun i p => if i < k then (p.1, crD1 ks i p.2) else p
def crD (ks : List Int) (k : Nat) : FS → FS
  | .map es => .map (crE ks k es)
  | d => d
theorem crE_keys (ks : List Int) (k : Nat) (es : List (Lit × DataW Fl)) : (crE ks k es).map (·.1) = es.map (·.1) := by
  unfold crE
  apply List.ext_getElem (by simp)
  intro i h1 h2
  simp only [List.getElem_mapIdx, List.getElem_map]
  split <;> rfl
theorem crE_zero (ks : List Int) (es : List (Lit × DataW Fl)) : crE ks 0 es = es := by
  unfold crE
  apply List.ext_getElem (by simp)
  intro i h1 h2
  simp
theorem crD_zero (ks : List Int) (D : FS) : crD ks 0 D = D := by cases D <;> simp [crD, crE_zero]
theorem keysL_crD (ks : List Int) (k : Nat) (D : FS) : keysL (crD ks k D) = keysL D := by cases D <;> simp [crD, keysL, crE_keys]
theorem crE_get (ks : List Int) (k : Nat) (es : List (Lit × DataW Fl)) (j : Nat) : (crE ks k es)[j]? = es[j]?.map fun p => if j < k then (p.1, crD1 ks j p.2) else p := by
  unfold crE
  rw [List.getElem?_mapIdx]
theorem canon_keys {D E : FS} (h : Canon D) (hm : IsMap E) (hk : keysL E = keysL D) : Canon E := by
  obtain ⟨es, rfl, h1, h2⟩ := h
  obtain ⟨es', rfl⟩ := hm
  have hk : es'.map (·.1) = es.map (·.1) := hk
  refine ⟨es', rfl, ?_, fun p hp => ?_⟩
  · have : (es.map (·.1)).Pairwise (fun a b : Lit => a.before b = true) := List.pairwise_map.2 h1
    rw [← hk] at this
    exact List.pairwise_map.1 this
  · have : p.1 ∈ es'.map (·.1) := List.mem_map.2 ⟨p, hp, rfl⟩
    rw [hk] at this
    obtain ⟨q, hq, e⟩ := List.mem_map.1 this
    rw [← e]
    exact h2 q hq
theorem canon_crD (ks : List Int) (k : Nat) {D : FS} (h : Canon D) : Canon (crD ks k D) := by
  refine canon_keys h ?_ (keysL_crD ks k D)
  obtain ⟨es, rfl, _⟩ := h
  exact ⟨_, rfl⟩
/-- The j-th entry is found by its key. -/
theorem look_idx {D : FS} (h : Canon D) {j : Nat} {p : Lit × DataW Fl} {es : List (Lit × DataW Fl)} (hD : D = .map es) (hp : es[j]? = some p) : look D p.1 = some p.2 := by
  subst hD
  obtain ⟨es', e, h1, h2⟩ := h
  injection e with e
  subst e
  have hm : p ∈ es := List.mem_of_getElem? hp
  have h3 : (DataW.map es).atKey p.1 .nil = p.2 := WideAt.atKey_mem .nil (h2 p hm) (apart_of_rising h1) hm
  have h4 : has (.map es) p.1 = true := List.any_eq_true.2 ⟨p, hm, WideAt.sameKey_self (h2 p hm)⟩
  rw [has_look] at h4
  rw [atKey_look] at h3
  obtain ⟨d, hd⟩ := Option.isSome_iff_exists.1 h4
  rw [hd] at h3 ⊢
  rw [← h3]
  rfl
theorem look_crE (ks : List Int) (k : Nat) {es : List (Lit × DataW Fl)} (h : Canon (.map es : FS)) {j : Nat} {q : Lit × DataW Fl} (hq : es[j]? = some q) : look (crD ks k (.map es)) q.1 = some (if j < k then crD1 ks j q.2 else q.2) := by
  have e := crE_get ks k es j
  rw [hq, Option.map_some] at e
  have l := look_idx (canon_crD ks k h) (es := crE ks k es) rfl e
  by_cases hj : j < k
  · simp only [if_pos hj] at l ⊢
    exact l
  · simp only [if_neg hj] at l ⊢
    exact l
/-- What a crash leaves of the j-th name. -/
theorem fat_crD {room : Nat} (ks : List Int) (k : Nat) {D : FS} (h : Good D room) {j : Nat} {s : List UInt8} {f : Fl} (hs : (strKeys D)[j]? = some s) (hf : fat D s = some f) : fat (crD ks k D) s = some (if j < k then crF ks j f else f) := by
  obtain ⟨es, rfl, h1, h2⟩ := h.canon
  have hs : (es.map fun p => Go.strOf p.1)[j]? = some s := hs
  rw [List.getElem?_map] at hs
  obtain ⟨p, hp, e⟩ := Option.map_eq_some_iff.1 hs
  obtain ⟨x, hx⟩ := h.strs p.1 (List.any_eq_true.2 ⟨p, List.mem_of_getElem? hp, WideAt.sameKey_self (h2 p (List.mem_of_getElem? hp))⟩)
  have hxs : x = s := by rw [hx] at e; exact e
  subst hxs
  have l1 := look_idx h.canon rfl hp
  rw [hx, h.look_, hf] at l1
  have hd : p.2 = .held f := by injection l1 with l1; exact l1.symm
  have l2 := look_crE ks k h.canon hp
  rw [hx, hd] at l2
  unfold fat
  rw [l2]
  by_cases hjk : j < k
  · rw [if_pos hjk, if_pos hjk]; rfl
  · rw [if_neg hjk, if_neg hjk]
theorem names_mem {D : FS} {room : Nat} (h : Good D room) (s : List UInt8) : s ∈ strKeys D ↔ (fat D s).isSome = true := by
  rw [strKeys_keysL, List.mem_map, ← h.has_, ← keysL_mem h.canon]
  constructor
  · rintro ⟨k, hk, rfl⟩
    obtain ⟨x, rfl⟩ := h.strs k ((keysL_mem h.canon k).1 hk)
    exact hk
  · intro hk
    exact ⟨_, hk, rfl⟩
theorem names_crD (ks : List Int) (k : Nat) (D : FS) : strKeys (crD ks k D) = strKeys D := by rw [strKeys_keysL, strKeys_keysL, keysL_crD]
theorem crD_succ {room : Nat} (ks : List Int) (k : Nat) {D : FS} (h : Good D room) {s : List UInt8} {f : Fl} (hs : (strKeys D)[k]? = some s) (hf : fat D s = some f) : crD ks (k + 1) D = (crD ks k D).put (.string s) (.held (crF ks k f)) := by
  have hc := canon_crD ks k h.canon
  have hstr : ∀ key, has (crD ks k D) key = true → ∃ l, key = .string l := fun key hk => h.strs key (by rw [← keysL_mem h.canon, ← keysL_crD ks k]; exact (keysL_mem hc key).2 hk)
  refine look_ext (canon_crD ks (k + 1) h.canon) (canon_put hc hstr s _) (fun key => ?_)
  obtain ⟨es, rfl, h1, h2⟩ := h.canon
  have hn : (es.map fun p => Go.strOf p.1)[k]? = some s := hs
  rw [List.getElem?_map] at hn
  obtain ⟨p, hp, e⟩ := Option.map_eq_some_iff.1 hn
  obtain ⟨x, hx⟩ := h.strs p.1 (List.any_eq_true.2 ⟨p, List.mem_of_getElem? hp, WideAt.sameKey_self (h2 p (List.mem_of_getElem? hp))⟩)
  have hxs : x = s := by rw [hx] at e; exact e
  subst hxs
  have l1 := look_idx h.canon rfl hp
  rw [hx, h.look_, hf] at l1
  have hd : p.2 = .held f := by injection l1 with l1; exact l1.symm
  by_cases hk : key = .string x
  · subst hk
    rw [look_put_same (canon_map hc) (isKey_str x)]
    have l2 := look_crE ks (k + 1) h.canon hp
    rw [if_pos (by omega), hx, hd] at l2
    exact l2
  · rw [look_put_other hk]
    cases hl : look (crD ks k (.map es)) key with
    | none =>
      have h5 : has (crD ks (k + 1) (.map es)) key = false := by
        cases hb : has (crD ks (k + 1) (.map es)) key
        · rfl
        · have h6 := (keysL_mem (canon_crD ks (k + 1) h.canon) key).2 hb
          rw [keysL_crD, ← keysL_crD ks k] at h6
          have h7 := (keysL_mem hc key).1 h6
          rw [has_look, hl] at h7
          cases h7
      rw [has_look] at h5
      cases hq : look (crD ks (k + 1) (.map es)) key with
      | none => rfl
      | some _ => rw [hq] at h5; cases h5
    | some d =>
      have h6 : has (crD ks k (.map es)) key = true := by rw [has_look, hl]; rfl
      have h7 := (keysL_mem hc key).2 h6
      rw [keysL_crD] at h7
      obtain ⟨q, hq, e⟩ := List.mem_map.1 (show key ∈ es.map (·.1) from h7)
      obtain ⟨j, hj⟩ := List.getElem?_of_mem hq
      have hjk : j ≠ k := fun e' => by
        subst e'
        rw [hp] at hj
        injection hj with hj
        subst hj
        exact hk (e.symm.trans hx)
      have a1 := look_crE ks k h.canon hj
      have a2 := look_crE ks (k + 1) h.canon hj
      rw [e] at a1 a2
      rw [a2, ← hl, a1]
      by_cases hlt : j < k
      · rw [if_pos hlt, if_pos (by omega)]
      · rw [if_neg hlt, if_neg (by omega)]
/-- Behind all, there's no more. -/
theorem OwnB.cut {w : World} {e : TypeId} {a : Option Addr} {n c : Nat} {bs : List Nat} (h : OwnB w 0 e (.slice a n c) bs) {m : Nat} (hm : m ≤ n) : OwnB w 0 e (.slice a m c) (bs.take m) := by
  have hn := own_len h
  have hl : (bs.take m).length = m := by rw [List.length_take]; omega
  unfold OwnB
  rw [hl]
  refine ⟨by simp; omega, ?_⟩
  rcases h.2 with ⟨h', _⟩ | ⟨g, cap, cur, h', hb, hh, h1, h2, h3, h4⟩
  · injection h' with e1 e2 e3
    subst e1 e3
    have : m = 0 := by omega
    subst this
    exact .inl ⟨rfl, rfl⟩
  · injection h' with e1 e2 e3
    subst e1 e3
    refine .inr ⟨g, c, cur, rfl, hb, hh, by omega, h2, h3, ?_⟩
    rw [List.map_take, ← h4, List.take_take]
    congr 1
    omega
theorem good_cr {D : FS} {room : Nat} (h : Good D room) {s : List UInt8} {f : Fl} (hf : fat D s = some f) (ks : List Int) (i : Nat) : Good (D.put (.string s) (.held (crF ks i f))) room := by
  obtain ⟨h0, h1, h2, _⟩ := h.at_ hf
  have hm := crM_le ks i h1
  refine h.put h0 (by simp [crF]; omega) (fun c hc => h2 c (List.mem_of_mem_take hc)) (.inl (by rw [hf]; rfl)) ?_
  rw [hf]
  have := h.tot_
  simp [crF]
  omega
end Go.Proofs.Ytohiheohndmccaa

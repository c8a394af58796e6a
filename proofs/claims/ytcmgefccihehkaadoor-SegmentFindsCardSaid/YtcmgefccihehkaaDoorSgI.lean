/- The reference's Find. -/
import Derived.Test.YtcmgefccihehkaaDoorSgV
import Derived.Test.YtcmgefccihehkaaDoorSgC
import Derived.Test.YtcmgefccihehkaaDoorFrK
namespace Go.Proofs.YtcmgefccihehkaaDoor
open Go.RowKit Go.Shelf
open Crc Frm

def lastAt (l : List (Int × Int)) (seq : Int) : Int := l.foldl (fun a x => if x.1 ≤ seq then x.2 else a) (-1)
theorem lastAt_snoc (l : List (Int × Int)) (x : Int × Int) (seq : Int) : lastAt (l ++ [x]) seq = if x.1 ≤ seq then x.2 else lastAt l seq := by
  unfold lastAt
  rw [List.foldl_append]
  rfl
theorem lastAt_none : ∀ (l : List (Int × Int)) (seq : Int), (∀ (j : Nat) (y : Int × Int), l[j]? = some y → seq < y.1) → lastAt l seq = -1 := by
  intro l seq h
  have : ∀ (m : List (Int × Int)) (a : Int), (∀ y ∈ m, seq < y.1) → m.foldl (fun a x => if x.1 ≤ seq then x.2 else a) a = a := by
    intro m
    induction m with
    | nil => intro a _; rfl
    | cons y m ih =>
      intro a hm
      have h1 := hm y (by simp)
      rw [List.foldl_cons, if_neg (by omega)]
      exact ih a (fun z hz => hm z (by simp [hz]))
  refine this l (-1) (fun y hy => ?_)
  obtain ⟨j, hj, rfl⟩ := List.getElem_of_mem hy
  exact h j _ (List.getElem?_eq_getElem hj)
theorem lastAt_some (l : List (Int × Int)) (seq : Int) (k : Nat) (x : Int × Int) (hk : l[k]? = some x) (hx : x.1 ≤ seq) (h : ∀ (j : Nat) (y : Int × Int), k < j → l[j]? = some y → seq < y.1) : lastAt l seq = x.2 := by
  have : ∀ (m : List (Int × Int)) (a : Int), (∀ y ∈ m, seq < y.1) → m.foldl (fun a x => if x.1 ≤ seq then x.2 else a) a = a := by
    intro m
    induction m with
    | nil => intro a _; rfl
    | cons y m ih =>
      intro a hm
      have h1 := hm y (by simp)
      rw [List.foldl_cons, if_neg (by omega)]
      exact ih a (fun z hz => hm z (by simp [hz]))
  have hl := (List.getElem?_eq_some_iff.1 hk).1
  have e : l = l.take k ++ x :: l.drop (k + 1) := by
    have h1 := (List.take_append_drop k l).symm
    rw [List.drop_eq_getElem_cons hl] at h1
    rw [List.getElem?_eq_getElem hl] at hk
    injection hk with hk
    rw [hk] at h1
    exact h1
  unfold lastAt
  rw [e, List.foldl_append, List.foldl_cons, if_pos hx]
  refine this _ _ (fun y hy => ?_)
  obtain ⟨j, hj, rfl⟩ := List.getElem_of_mem hy
  refine h (k + 1 + j) _ (by omega) ?_
  rw [← List.getElem?_drop]
  exact List.getElem?_eq_getElem hj
/-- What both look through. -/
def look (bs : List Nat) (xs : List (Int × Int)) (seq : Int) : List (Nat × Fr) := if 0 ≤ lastAt xs seq ∧ lastAt xs seq ≤ (bs.length : Int) then tolds bs (lastAt xs seq).toNat else []
theorem look_bg {bs : List Nat} {xs : List (Int × Int)} {seq at_ : Int} {is : Bool} (h : Bg xs seq at_ is) : (if is = true ∧ 0 ≤ at_ ∧ at_ ≤ (bs.length : Int) then tolds bs at_.toNat else []) = look bs xs seq := by
  unfold look
  rcases h with ⟨rfl, k, x, hk, hx, rfl, hn⟩ | ⟨rfl, rfl, hn⟩
  · rw [lastAt_some xs seq k x hk hx hn]
    simp
  · rw [lastAt_none xs seq hn]
    simp
/-- The program's Find, by what is looked through. -/
theorem find_look (a : Option Addr) (len cap : Nat) (bs : List Nat) (la : Option Addr) (ll lc : Nat) (xs : List (Int × Int)) (hl : ll ≤ 100000) (seq : Int) (w : World) (hs : Sl w w.heap.size a len cap bs) (hx : Spts w w.heap.size la ll lc xs) :
    Calls Tryd.prog 19 #[.slice a len cap, .slice la ll lc, .int .i64 seq] w fun e w' => FndPost (look bs xs seq) seq w e w' :=
  (callsIn_wide.1 (find_in Fence.wide rfl 12 (Nat.le_refl _) a len cap bs la ll lc xs hl seq w hs hx)).mono fun e w' h => by
    obtain ⟨at_, is, hB, hF⟩ := h
    rw [look_bg hB] at hF
    exact hF
end Go.Proofs.YtcmgefccihehkaaDoor

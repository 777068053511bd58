/- Entries by what is in them; sums over slots. No condition. -/
import Derived.Test.YtmilagppbepnbaaGreatSpf
import Derived.RangeFuncFrom
import Derived.RangeFuncBox
import Derived.Shelf.Abstract
import Derived.Shelf.RegionOpen
import Derived.OwnWalk
import Derived.OwnWalkIn
import Derived.TacticsInMore
import Derived.LoopNIn
import Derived.LoopIn
import Derived.Sort.CutIn
import Derived.Sort.QuietIn
import Derived.StillTailTactics
import Derived.Maps.OwnIn
namespace Go.Proofs.YtmilagppbepnbaaGreat
open Go.RowKit

theorem lookM_mem {l : Ents} {x : ByteArray} (h : lookM l x ≠ 0) : (x, lookM l x) ∈ l := by
  cases hh : has (nms l) x with
  | false => exact absurd (lookM_no hh) h
  | true =>
    obtain ⟨y, hy, h1, h2⟩ := lookM_yes hh
    have := List.mem_of_getElem? hy
    rw [h2]
    obtain ⟨a, b⟩ := y
    cases h1
    exact this
theorem sorted_cons {y : ByteArray} {K : List ByteArray} (h : Sorted (y :: K)) : Sorted K ∧ ∀ z ∈ K, lt y z = true := by
  unfold Sorted at h
  rw [List.pairwise_cons] at h
  exact ⟨h.2, h.1⟩
theorem sorted_inj {l : Ents} (h : Sorted (nms l)) {e e' : En} (h1 : e ∈ l) (h2 : e' ∈ l) (h3 : e.1 = e'.1) : e = e' := by
  induction l with
  | nil => cases h1
  | cons a l ih =>
    obtain ⟨hs, hl⟩ := sorted_cons (show Sorted (a.1 :: nms l) from h)
    have hno : ∀ z ∈ l, a.1 ≠ z.1 := fun z hz e => by
      have := hl z.1 (List.mem_map.2 ⟨z, hz, rfl⟩)
      rw [e, lt_irrefl] at this
      cases this
    rcases List.mem_cons.1 h1 with k1 | k1
    · rcases List.mem_cons.1 h2 with k2 | k2
      · rw [k1, k2]
      · rw [k1] at h3
        exact absurd h3 (hno e' k2)
    · rcases List.mem_cons.1 h2 with k2 | k2
      · rw [k2] at h3
        exact absurd h3.symm (hno e k1)
      · exact ih hs k1 k2
theorem has_mem {l : Ents} (hs : Sorted (nms l)) {e : En} (h : e ∈ l) : has (nms l) e.1 = true := by
  obtain ⟨i, hi⟩ := List.mem_iff_getElem?.1 h
  have hn := nms_of hi
  have hil := (List.getElem?_eq_some_iff.1 hn).1
  have hp : pos (nms l) e.1 = i := by
    refine pos_is (by omega) (fun t y ht hy => ?_) (fun t y ht hy => ?_)
    · have h1 := List.pairwise_iff_getElem.1 hs t i (by omega) hil ht
      rw [← (List.getElem?_eq_some_iff.1 hy).2, ← (List.getElem?_eq_some_iff.1 hn).2]
      exact h1
    · rcases Nat.lt_or_ge i t with h2 | h2
      · have h1 := List.pairwise_iff_getElem.1 hs i t hil (List.getElem?_eq_some_iff.1 hy).1 h2
        rw [(List.getElem?_eq_some_iff.1 hy).2, (List.getElem?_eq_some_iff.1 hn).2] at h1
        cases h3 : lt y e.1 with
        | false => rfl
        | true =>
          have h4 := lt_trans h1 h3
          rw [lt_irrefl] at h4
          cases h4
      · obtain rfl : t = i := by omega
        rw [hn] at hy
        cases hy
        exact lt_irrefl _
  unfold has
  rw [hp, hn]
  simp
theorem lookM_of {l : Ents} (hs : Sorted (nms l)) {x : ByteArray} {n : Nat} (h : (x, n) ∈ l) : lookM l x = n := by
  obtain ⟨y, hy, h1, h2⟩ := lookM_yes (has_mem hs h)
  have := sorted_inj hs (List.mem_of_getElem? hy) h h1
  rw [h2, this]
theorem not_has {l : Ents} {x : ByteArray} (h : lookM l x = 0) (h0 : ∀ e ∈ l, e.2 ≠ 0) : has (nms l) x = false := by
  cases hh : has (nms l) x with
  | false => rfl
  | true =>
    obtain ⟨y, hy, _, h2⟩ := lookM_yes hh
    rw [h2] at h
    exact absurd h (h0 y (List.mem_of_getElem? hy))
theorem addM_mem {l : Ents} {x : ByteArray} {n : Nat} {e : En} : e ∈ addM l x n ↔ e = (x, n) ∨ e ∈ l := by
  unfold addM ins
  rw [List.mem_append, List.mem_cons]
  constructor
  · rintro (h | h | h)
    · exact .inr (List.mem_of_mem_take h)
    · exact .inl h
    · exact .inr (List.mem_of_mem_drop h)
  · rintro (h | h)
    · exact .inr (.inl h)
    · rw [← List.take_append_drop (pos (nms l) x) l, List.mem_append] at h
      rcases h with h | h
      · exact .inl h
      · exact .inr (.inr h)
theorem addM_len (l : Ents) (x : ByteArray) (n : Nat) : (addM l x n).length = l.length + 1 := by
  unfold addM
  rw [ins_len]
  have := pos_le (nms l) x
  unfold nms at this ⊢
  rw [List.length_map] at this
  exact this
theorem addM_sorted {l : Ents} (hs : Sorted (nms l)) {x : ByteArray} (hx : has (nms l) x = false) (n : Nat) : Sorted (nms (addM l x n)) := by
  have hp := pos_le (nms l) x
  have e : nms (addM l x n) = (nms l).take (pos (nms l) x) ++ x :: (nms l).drop (pos (nms l) x) := by
    unfold addM ins nms
    rw [List.map_append, List.map_cons, List.map_take, List.map_drop]
  rw [e]
  have hd := hs
  unfold Sorted at hs hd ⊢
  rw [← List.take_append_drop (pos (nms l) x) (nms l), List.pairwise_append] at hd
  obtain ⟨h1, h2, h3⟩ := hd
  have hb : ∀ y ∈ (nms l).take (pos (nms l) x), lt y x = true := fun y hy => by
    obtain ⟨t, ht⟩ := List.mem_iff_getElem?.1 hy
    have htl := (List.getElem?_eq_some_iff.1 ht).1
    rw [List.length_take] at htl
    rw [List.getElem?_take_of_lt (by omega)] at ht
    exact pos_below _ _ t y (by omega) ht
  have ha : ∀ y ∈ (nms l).drop (pos (nms l) x), lt x y = true := fun y hy => by
    obtain ⟨t, ht⟩ := List.mem_iff_getElem?.1 hy
    rw [List.getElem?_drop] at ht
    cases h4 : lt x y with
    | true => rfl
    | false =>
      have h5 := pos_above _ x hs _ y (Nat.le_add_right _ t) ht
      have h6 := lt_total h4 h5
      subst h6
      exfalso
      have hml : x ∈ nms l := List.mem_of_getElem? ht
      obtain ⟨e0, he0, rfl⟩ := List.mem_map.1 hml
      rw [has_mem hs he0] at hx
      cases hx
  rw [List.pairwise_append, List.pairwise_cons]
  refine ⟨h1, ⟨ha, h2⟩, fun a ha' b hb' => ?_⟩
  rcases List.mem_cons.1 hb' with rfl | hb'
  · exact hb a ha'
  · exact h3 a ha' b hb'
theorem remM_split {l : Ents} {x : ByteArray} (h : has (nms l) x = true) : ∃ a b, l = a ++ (x, lookM l x) :: b ∧ remM l x = a ++ b := by
  obtain ⟨y, hy, h1, h2⟩ := lookM_yes h
  have hl := (List.getElem?_eq_some_iff.1 hy).1
  have hye : y = (x, lookM l x) := by
    rw [h2, ← h1]
  refine ⟨l.take (pos (nms l) x), l.drop (pos (nms l) x + 1), ?_, ?_⟩
  · have h3 := (List.getElem?_eq_some_iff.1 hy).2
    rw [← hye, ← h3, List.getElem_cons_drop]
    exact (List.take_append_drop _ _).symm
  · unfold remM
    rw [if_pos h, List.eraseIdx_eq_take_drop_succ]
theorem remM_mem {l : Ents} (hs : Sorted (nms l)) {x : ByteArray} {e : En} : e ∈ remM l x ↔ e ∈ l ∧ e.1 ≠ x := by
  cases hh : has (nms l) x with
  | false =>
    unfold remM
    rw [if_neg (by rw [hh]; decide)]
    refine ⟨fun h => ⟨h, fun h2 => ?_⟩, fun h => h.1⟩
    rw [← h2, has_mem hs h] at hh
    cases hh
  | true =>
    obtain ⟨a, b, h1, h2⟩ := remM_split hh
    rw [h2]
    obtain ⟨k, hk⟩ : ∃ k, lookM l x = k := ⟨_, rfl⟩
    rw [hk] at h1
    clear h2 hh hk
    subst h1
    have e1 : nms (a ++ (x, k) :: b) = nms a ++ x :: nms b := by simp [nms]
    rw [e1] at hs
    unfold Sorted at hs
    rw [List.pairwise_append, List.pairwise_cons] at hs
    obtain ⟨_, ⟨h4, _⟩, h6⟩ := hs
    rw [List.mem_append, List.mem_append, List.mem_cons]
    constructor
    · rintro (h | h)
      · refine ⟨.inl h, fun h7 => ?_⟩
        have := h6 e.1 (List.mem_map.2 ⟨e, h, rfl⟩) x (List.mem_cons_self ..)
        rw [h7, lt_irrefl] at this
        cases this
      · refine ⟨.inr (.inr h), fun h7 => ?_⟩
        have := h4 e.1 (List.mem_map.2 ⟨e, h, rfl⟩)
        rw [h7, lt_irrefl] at this
        cases this
    · rintro ⟨h | rfl | h, h2⟩
      · exact .inl h
      · exact absurd rfl h2
      · exact .inr h
theorem remM_sorted {l : Ents} (hs : Sorted (nms l)) (x : ByteArray) : Sorted (nms (remM l x)) := List.Pairwise.sublist ((rem_sub l x).map _) hs
/-- How many entries name a number. -/
def cntE (l : Ents) (n : Nat) : Nat := l.countP (fun e => e.2 == n)
theorem cntE_add (l : Ents) (x : ByteArray) (k n : Nat) : cntE (addM l x k) n = cntE l n + (if k = n then 1 else 0) := by
  unfold cntE addM ins
  have e : l.countP (fun e => e.2 == n) = (l.take (pos (nms l) x)).countP (fun e => e.2 == n) + (l.drop (pos (nms l) x)).countP (fun e => e.2 == n) := by
    rw [← List.countP_append, List.take_append_drop]
  rw [List.countP_append, List.countP_cons, e]
  simp only [beq_iff_eq]
  omega
theorem cntE_rem {l : Ents} {x : ByteArray} (h : lookM l x ≠ 0) (n : Nat) : cntE (remM l x) n + (if lookM l x = n then 1 else 0) = cntE l n := by
  cases hh : has (nms l) x with
  | false => exact absurd (lookM_no hh) h
  | true =>
    obtain ⟨a, b, h1, h2⟩ := remM_split hh
    obtain ⟨k, hk⟩ : ∃ k, lookM l x = k := ⟨_, rfl⟩
    rw [hk] at h1 ⊢
    rw [h2, h1]
    unfold cntE
    rw [List.countP_append, List.countP_append, List.countP_cons]
    simp only [beq_iff_eq]
    omega
theorem remM_len {l : Ents} {x : ByteArray} (h : lookM l x ≠ 0) : (remM l x).length + 1 = l.length := by
  cases hh : has (nms l) x with
  | false => exact absurd (lookM_no hh) h
  | true =>
    obtain ⟨a, b, h1, h2⟩ := remM_split hh
    have h3 := congrArg List.length h1
    rw [h2]
    simp only [List.length_append, List.length_cons] at h3 ⊢
    omega
theorem cntE_pos {l : Ents} {e : En} (h : e ∈ l) : 1 ≤ cntE l e.2 := List.countP_pos_iff.2 ⟨e, h, by simp⟩

/-- A sum over what lies in the slots. -/
def sumF (g : Ino → Nat) : Fs → Nat
  | [] => 0
  | none :: l => sumF g l
  | some I :: l => g I + sumF g l
def optF (g : Ino → Nat) : Option Ino → Nat
  | none => 0
  | some I => g I
theorem sumF_set (g : Ino → Nat) : ∀ (f : Fs) (i : Nat) (a b : Option Ino), f[i]? = some a → sumF g (f.set i b) + optF g a = sumF g f + optF g b
  | [], _, _, _, h => by simp at h
  | o :: l, 0, a, b, h => by
    obtain rfl : o = a := by simpa using h
    cases o <;> cases b <;> simp [sumF, optF] <;> omega
  | o :: l, i + 1, a, b, h => by
    have ih := sumF_set g l i a b (by simpa using h)
    cases o <;> simp [sumF] <;> omega
theorem sumF_app (g : Ino → Nat) : ∀ (f : Fs) (I : Ino), sumF g (f ++ [some I]) = sumF g f + g I
  | [], I => by simp [sumF]
  | o :: l, I => by
    have ih := sumF_app g l I
    cases o <;> simp [sumF, ih] <;> omega
theorem sumF_ge (g : Ino → Nat) : ∀ (f : Fs) (i : Nat) (I : Ino), f[i]? = some (some I) → g I ≤ sumF g f
  | [], _, _, h => by simp at h
  | o :: l, 0, I, h => by
    obtain rfl : o = some I := by simpa using h
    simp [sumF]
  | o :: l, i + 1, I, h => by
    have ih := sumF_ge g l i I (by simpa using h)
    cases o <;> simp [sumF] <;> omega
theorem sumF_two (g : Ino → Nat) : ∀ (f : Fs) (i j : Nat) (I J : Ino), i ≠ j → f[i]? = some (some I) → f[j]? = some (some J) → g I + g J ≤ sumF g f
  | [], _, _, _, _, _, h, _ => by simp at h
  | o :: l, 0, 0, I, J, hn, _, _ => absurd rfl hn
  | o :: l, 0, j + 1, I, J, _, h, k => by
    obtain rfl : o = some I := by simpa using h
    have ih := sumF_ge g l j J (by simpa using k)
    simp [sumF]
    omega
  | o :: l, i + 1, 0, I, J, _, h, k => by
    obtain rfl : o = some J := by simpa using k
    have ih := sumF_ge g l i I (by simpa using h)
    simp [sumF]
    omega
  | o :: l, i + 1, j + 1, I, J, hn, h, k => by
    have ih := sumF_two g l i j I J (by omega) (by simpa using h) (by simpa using k)
    cases o <;> simp [sumF] <;> omega
theorem bytesM_sum : ∀ f : Fs, bytesM f = sumF (fun I => I.data.length) f
  | [] => rfl
  | none :: l => by rw [bytesM, sumF, bytesM_sum l]
  | some I :: l => by rw [bytesM, sumF, bytesM_sum l]
def cntF (f : Fs) (n : Nat) : Nat := sumF (fun I => cntE I.ents n) f
/-- Where what is new comes to lie, and what it leaves. -/
theorem free_get : ∀ (f : Fs), free f < f.length → f[free f]? = some none
  | [], h => by simp [free] at h
  | none :: l, _ => by simp [free]
  | some I :: l, h => by
    have := free_get l (by simpa [free] using h)
    simpa [free] using this
theorem free_all : ∀ (f : Fs), ¬ free f < f.length → free f = f.length ∧ countM f = f.length
  | [], _ => ⟨rfl, rfl⟩
  | none :: l, h => by simp [free] at h
  | some I :: l, h => by
    have := free_all l (by simpa [free] using h)
    simp [free, countM, this.1, this.2]
theorem putNew_get (f : Fs) (I : Ino) (k : Nat) : (putNew f I)[k]? = if k = free f then some (some I) else f[k]? := by
  unfold putNew
  by_cases h : free f < f.length
  · rw [if_pos h]
    by_cases e : k = free f
    · rw [if_pos e, e, List.getElem?_set_self h]
    · rw [if_neg e, List.getElem?_set_ne (fun h => e h.symm)]
  · rw [if_neg h]
    have hf := (free_all f h).1
    by_cases e : k = free f
    · rw [if_pos e, e, hf, List.getElem?_append_right (Nat.le_refl _), Nat.sub_self]
      rfl
    · rw [if_neg e]
      rcases Nat.lt_or_ge k f.length with h1 | h1
      · rw [List.getElem?_append_left h1]
      · rw [List.getElem?_eq_none (by simp; omega), List.getElem?_eq_none h1]
theorem putNew_sum (g : Ino → Nat) (f : Fs) (I : Ino) : sumF g (putNew f I) = sumF g f + g I := by
  unfold putNew
  by_cases h : free f < f.length
  · rw [if_pos h]
    have := sumF_set g f _ none (some I) (free_get f h)
    simp [optF] at this
    exact this
  · rw [if_neg h, sumF_app]
theorem putNew_len2 (f : Fs) (I : Ino) (hl : f.length ≤ 100) (hc : ¬ 100 ≤ countM f) : (putNew f I).length ≤ 100 := by
  unfold putNew
  by_cases h : free f < f.length
  · rw [if_pos h, List.length_set]
    exact hl
  · rw [if_neg h]
    have := (free_all f h).2
    simp
    omega
end Go.Proofs.YtmilagppbepnbaaGreat
/- What holds of a tree of files along all calls: as plain data. No condition. -/
namespace Go.Proofs.YtmilagppbepnbaaGreat
open Go.RowKit

def nameOK (x : ByteArray) : Prop := 1 ≤ x.size ∧ x.size ≤ 32 ∧ x ≠ dotT ∧ x ≠ dotsT ∧ ¬ 47 ∈ x.data.toList
structure OkI (c : Nat) (f : Fs) (i : Nat) (I : Ino) : Prop where
  srt : Sorted (nms I.ents)
  live : ∀ e ∈ I.ents, 2 ≤ e.2 ∧ ∃ J, f[e.2 - 1]? = some (some J)
  name : ∀ e ∈ I.ents, nameOK e.1
  kind : I.kind = 1 ∨ I.kind = 2
  file : I.isDir = false → I.ents = []
  dat : I.isDir = true → I.data = []
  one : I.isDir = true → I.links ≤ 1
  gone : I.isDir = true → I.links = 0 → I.ents = []
  up : I.isDir = true → I.links = 1 → i ≠ 0 → ∃ (k : Nat) (P : Ino) (x : ByteArray), I.parent = k + 1 ∧ f[k]? = some (some P) ∧ (x, i + 1) ∈ P.ents
  cnt : cntF f (i + 1) ≤ I.links
  links : I.links ≤ c + 1
  holds : I.holds ≤ c
  deep : I.isDir = true → I.links = 1 → ∃ d, Deep f d (i + 1)
structure WF (c : Nat) (f : Fs) : Prop where
  len : f.length ≤ 100
  root : ∃ R, f[0]? = some (some R) ∧ R.isDir = true ∧ R.links = 1 ∧ R.parent = 1
  bytes : bytesM f ≤ 65536
  tot : sumF (fun I => I.ents.length) f ≤ c
  ino : ∀ (i : Nat) I, f[i]? = some (some I) → OkI c f i I
theorem node_nat {f : Fs} {i : Nat} {I : Ino} (h : f[i]? = some (some I)) : node f ((i + 1 : Nat) : Int) = some I := by
  rw [show ((i + 1 : Nat) : Int) = (i : Int) + 1 by omega]
  exact node_at h
theorem nat_node {f : Fs} {n : Nat} {I : Ino} (h : node f (n : Int) = some I) : ∃ i, n = i + 1 ∧ f[i]? = some (some I) := by
  obtain ⟨i, h1, _, h3⟩ := node_some h
  exact ⟨i, by omega, h3⟩
theorem WF.mono {c c' : Nat} {f : Fs} (h : WF c f) (hc : c ≤ c') : WF c' f := by
  refine ⟨h.len, h.root, h.bytes, Nat.le_trans h.tot hc, fun i I hi => ?_⟩
  have k := h.ino i I hi
  exact ⟨k.srt, k.live, k.name, k.kind, k.file, k.dat, k.one, k.gone, k.up, k.cnt, by have := k.links; omega, by have := k.holds; omega, k.deep⟩
section
variable {c : Nat} {f : Fs}
theorem WF.fine (h : WF c f) (hc : c ≤ 5000) : FineF f := by
  refine ⟨by have := h.len; omega, fun i I hi => ?_⟩
  have k := h.ino i I hi
  have h1 := sumF_ge (fun I => I.ents.length) f i I hi
  have h2 := sumF_ge (fun I => I.data.length) f i I hi
  have h3 := h.tot
  have h4 := h.bytes
  rw [bytesM_sum] at h4
  exact ⟨k.srt, by omega, by omega, by have := k.links; omega, by have := k.holds; omega⟩
theorem WF.isdir (h : WF c f) {i : Nat} {I : Ino} (hi : f[i]? = some (some I)) {e : En} (he : e ∈ I.ents) : I.isDir = true := by
  cases hd : I.isDir with
  | true => rfl
  | false =>
    rw [(h.ino i I hi).file hd] at he
    cases he
theorem WF.linked1 (h : WF c f) {i : Nat} {I : Ino} (hi : f[i]? = some (some I)) {e : En} (he : e ∈ I.ents) : I.links = 1 := by
  have k := h.ino i I hi
  have hd := h.isdir hi he
  have h1 := k.one hd
  rcases Nat.eq_zero_or_pos I.links with h0 | h0
  · rw [k.gone hd h0] at he
    cases he
  · omega
theorem cnt_mem {i : Nat} {I : Ino} (hi : f[i]? = some (some I)) {e : En} (he : e ∈ I.ents) : 1 ≤ cntF f e.2 := Nat.le_trans (cntE_pos he) (sumF_ge (fun I => cntE I.ents e.2) f i I hi)
theorem cnt_two {i j : Nat} {I J : Ino} (hi : f[i]? = some (some I)) (hj : f[j]? = some (some J)) (hn : i ≠ j) {e e' : En} (he : e ∈ I.ents) (he' : e' ∈ J.ents) (hx : e.2 = e'.2) : 2 ≤ cntF f e.2 := by
  have h1 := sumF_two (fun I => cntE I.ents e.2) f i j I J hn hi hj
  have h2 := cntE_pos he
  have h3 := cntE_pos he'
  rw [← hx] at h3
  unfold cntF
  omega
/-- A directory's parent is where its entry stands. -/
theorem WF.child (h : WF c f) {i j : Nat} {D J : Ino} (hi : f[i]? = some (some D)) (hj : f[j]? = some (some J)) {x : ByteArray} (hx : (x, j + 1) ∈ D.ents) (hd : J.isDir = true) : J.links = 1 ∧ J.parent = i + 1 ∧ j ≠ 0 ∧ i ≠ j := by
  have k := h.ino j J hj
  have h1 : 1 ≤ cntF f (j + 1) := cnt_mem hi hx
  have h2 := k.cnt
  have h3 := k.one hd
  have hl : J.links = 1 := by omega
  have hj0 : j ≠ 0 := by
    have := ((h.ino i D hi).live _ hx).1
    dsimp only at this
    omega
  obtain ⟨m, P, y, hp, hm, hy⟩ := k.up hd hl hj0
  have hmi : m = i := by
    rcases Nat.decEq m i with hne | he
    · have := cnt_two hm hi hne hy hx rfl
      dsimp only at this
      omega
    · exact he
  subst hmi
  refine ⟨hl, hp, hj0, fun e => ?_⟩
  subst e
  obtain ⟨d, hdp⟩ := k.deep hd hl
  cases hdp with
  | root => omega
  | up d' _ I' _ hn hdp' =>
    rw [node_nat hj] at hn
    cases hn
    rw [hp] at hdp'
    have := hdp'.uniq (Deep.up d' _ J (by omega) (node_nat hj) (by rw [hp]; exact hdp'))
    omega
theorem WF.live1 (h : WF c f) : (node f 1).isSome := by
  obtain ⟨R, hR, _⟩ := h.root
  have := node_nat hR
  rw [show ((0 + 1 : Nat) : Int) = 1 by omega] at this
  rw [this]
  rfl
theorem closed_dirs {f : Fs} (h1 : (node f 1).isSome) (h : ∀ (i : Nat) I, f[i]? = some (some I) → I.isDir = true → (0 < I.links → I.parent ≠ 0 → (node f (I.parent : Int)).isSome) ∧ ∀ e ∈ I.ents, e.2 ≠ 0 → (node f (e.2 : Int)).isSome) : Closed f := by
  refine ⟨h1, fun n x hn hs => ?_⟩
  obtain ⟨I, hI⟩ := Option.isSome_iff_exists.1 hn
  obtain ⟨i, _, _, hi⟩ := node_some hI
  have hab := h i I hi
  unfold stepM at hs ⊢
  rw [hI] at hs ⊢
  by_cases e1 : enterM f n = 0
  · have hd : I.isDir = true := by
      unfold enterM at e1
      rw [hI] at e1
      dsimp only at e1
      cases hd : I.isDir with
      | true => rfl
      | false => rw [hd] at e1; cases e1
    obtain ⟨ha, hb⟩ := hab hd
    rw [if_neg (fun h => h e1)] at hs ⊢
    dsimp only at hs ⊢
    by_cases e2 : x = dotT
    · rw [if_pos e2] at hs ⊢
      by_cases e3 : n = 0
      · rw [if_pos e3] at hs
        cases hs
      · rw [if_neg e3]
        exact hn
    · rw [if_neg e2] at hs ⊢
      by_cases e3 : x = dotsT
      · rw [if_pos e3] at hs ⊢
        by_cases e4 : 0 < I.links ∧ I.parent ≠ 0
        · rw [if_pos e4]
          exact ha e4.1 e4.2
        · rw [if_neg e4] at hs
          cases hs
      · rw [if_neg e3] at hs ⊢
        by_cases e4 : 32 < x.size
        · rw [if_pos e4] at hs
          cases hs
        · rw [if_neg e4] at hs ⊢
          by_cases e5 : lookM I.ents x = 0
          · rw [if_pos e5] at hs
            cases hs
          · rw [if_neg e5]
            cases hh : has (nms I.ents) x with
            | false => exact absurd (lookM_no hh) e5
            | true =>
              obtain ⟨y, hy, _, hl⟩ := lookM_yes hh
              rw [hl] at e5 ⊢
              exact hb y (List.mem_of_getElem? hy) e5
  · rw [if_pos e1] at hs
    exact absurd hs e1
theorem WF.closed (h : WF c f) : Closed f := closed_dirs h.live1 fun i I hi hd => by
  have k := h.ino i I hi
  refine ⟨fun h1 h2 => ?_, fun e he _ => ?_⟩
  · by_cases h0 : i = 0
    · subst h0
      obtain ⟨R, hR, _, _, hp⟩ := h.root
      rw [hR] at hi
      cases hi
      rw [hp]
      exact h.live1
    · obtain ⟨m, P, y, hp, hm, _⟩ := k.up hd (by have := k.one hd; omega) h0
      rw [hp, node_nat hm]
      rfl
  · obtain ⟨h1, J, hJ⟩ := k.live e he
    have := node_nat hJ
    rw [show e.2 - 1 + 1 = e.2 by omega] at this
    rw [this]
    rfl
/-- How deep goes over from one tree to another. -/
theorem deep_on {f f' : Fs} (Q : Nat → Prop) (hs : ∀ (n : Nat) I, Q n → n ≠ 1 → node f (n : Int) = some I → (∃ I', node f' (n : Int) = some I' ∧ I'.parent = I.parent) ∧ Q I.parent) {d n : Nat} (h : Deep f d n) : Q n → Deep f' d n := by
  induction h with
  | root => intro _; exact .root
  | up d n I h1 hn _ ih =>
    intro hq
    obtain ⟨⟨I', hI', hp⟩, hq'⟩ := hs n I hq h1 hn
    exact .up d n I' h1 hI' (by rw [hp]; exact ih hq')
/-- Up the parents, and never by a. -/
inductive Av (f : Fs) (a : Nat) : Nat → Nat → Prop
  | root (h : a ≠ 1) : Av f a 0 1
  | up (d n : Nat) (I : Ino) (h1 : n ≠ 1) (h2 : n ≠ a) (hn : node f (n : Int) = some I) (h : Av f a d I.parent) : Av f a (d + 1) n
theorem av_of {f : Fs} {a : Nat} {d n : Nat} (h : Deep f d n) : holdsM f d a n = false → Av f a d n := by
  induction h with
  | root =>
    intro h
    refine .root (fun e => ?_)
    subst e
    simp [holdsM] at h
  | up d n I h1 hn _ ih =>
    intro h
    unfold holdsM at h
    by_cases e : n = a
    · rw [if_pos e] at h
      cases h
    · rw [if_neg e, hn] at h
      exact .up d n I h1 e hn (ih h)
theorem av_ne {f : Fs} {a d n : Nat} (h : Av f a d n) : n ≠ a := by
  cases h with
  | root h => exact fun e => h e.symm
  | up _ _ _ _ h2 _ _ => exact h2
theorem av_on {f f' : Fs} {a : Nat} (Q : Nat → Prop) (hs : ∀ (n : Nat) I, Q n → n ≠ 1 → n ≠ a → node f (n : Int) = some I → (∃ I', node f' (n : Int) = some I' ∧ I'.parent = I.parent) ∧ Q I.parent) {d n : Nat} (h : Av f a d n) : Q n → Av f' a d n := by
  induction h with
  | root h => intro _; exact .root h
  | up d n I h1 h2 hn _ ih =>
    intro hq
    obtain ⟨⟨I', hI', hp⟩, hq'⟩ := hs n I hq h1 h2 hn
    exact .up d n I' h1 h2 hI' (by rw [hp]; exact ih hq')
theorem av_deep {f f' : Fs} {a : Nat} (Q : Nat → Prop) (hs : ∀ (n : Nat) I, Q n → n ≠ 1 → n ≠ a → node f (n : Int) = some I → (∃ I', node f' (n : Int) = some I' ∧ I'.parent = I.parent) ∧ Q I.parent) {d n : Nat} (h : Av f a d n) : Q n → Deep f' d n := by
  induction h with
  | root h => intro _; exact .root
  | up d n I h1 h2 hn _ ih =>
    intro hq
    obtain ⟨⟨I', hI', hp⟩, hq'⟩ := hs n I hq h1 h2 hn
    exact .up d n I' h1 hI' (by rw [hp]; exact ih hq')
/-- A directory that has its link. -/
def LD (f : Fs) (n : Nat) : Prop := ∃ i I, n = i + 1 ∧ f[i]? = some (some I) ∧ I.isDir = true ∧ I.links = 1
theorem WF.ldUp (h : WF c f) {n : Nat} {I : Ino} (hq : LD f n) (h1 : n ≠ 1) (hn : node f (n : Int) = some I) : LD f I.parent ∧ ∃ (m : Nat) (P : Ino) (x : ByteArray), I.parent = m + 1 ∧ f[m]? = some (some P) ∧ (x, n) ∈ P.ents := by
  obtain ⟨i, I0, rfl, hi, hd, hl⟩ := hq
  rw [node_nat hi] at hn
  cases hn
  obtain ⟨m, P, x, hp, hm, hx⟩ := (h.ino i I hi).up hd hl (by omega)
  exact ⟨⟨m, P, hp, hm, h.isdir hm hx, h.linked1 hm hx⟩, m, P, x, hp, hm, hx⟩
theorem cnt_ex : ∀ (f : Fs) (n : Nat), cntF f n ≠ 0 → ∃ (i : Nat) (I : Ino), f[i]? = some (some I) ∧ ∃ e ∈ I.ents, e.2 = n
  | [], n, h => by simp [cntF, sumF] at h
  | none :: l, n, h => by
    obtain ⟨i, I, h1, h2⟩ := cnt_ex l n (by simpa [cntF, sumF] using h)
    exact ⟨i + 1, I, by simpa using h1, h2⟩
  | some I :: l, n, h => by
    by_cases h0 : cntE I.ents n = 0
    · obtain ⟨i, I', h1, h2⟩ := cnt_ex l n (by
        unfold cntF at h ⊢
        simp only [sumF, h0] at h
        omega)
      exact ⟨i + 1, I', by simpa using h1, h2⟩
    · refine ⟨0, I, rfl, ?_⟩
      obtain ⟨e, he, h2⟩ := List.countP_pos_iff.1 (Nat.pos_of_ne_zero h0)
      exact ⟨e, he, by simpa using h2⟩
theorem WF.cnt0 (h : WF c f) {k : Nat} (hk : ∀ K, f[k]? ≠ some (some K)) : cntF f (k + 1) = 0 := by
  rcases Nat.eq_zero_or_pos (cntF f (k + 1)) with h0 | h0
  · exact h0
  · obtain ⟨i, I, hi, e, he, hn⟩ := cnt_ex f (k + 1) (by omega)
    obtain ⟨_, J, hJ⟩ := (h.ino i I hi).live e he
    rw [hn] at hJ
    exact absurd hJ (hk J)
end
theorem new_wf : WF 0 newM := by
  refine ⟨by decide, ⟨_, rfl, rfl, rfl, rfl⟩, by decide, by decide, fun i I hi => ?_⟩
  cases i with
  | succ i => simp [newM] at hi
  | zero =>
    obtain rfl : (⟨2, 493, 1, 0, [], [], 1⟩ : Ino) = I := by simpa [newM] using hi
    exact ⟨List.Pairwise.nil, fun e he => (nomatch he), fun e he => (nomatch he), .inr rfl, fun _ => rfl, fun _ => rfl, fun _ => Nat.le_refl _, fun _ _ => rfl, fun _ _ h => absurd rfl h, by decide, by decide, by decide, fun _ _ => ⟨0, .root⟩⟩
end Go.Proofs.YtmilagppbepnbaaGreat
/- What holds along all calls is kept: a touch, a new inode, a link, an unlink. No condition. -/
namespace Go.Proofs.YtmilagppbepnbaaGreat
open Go.RowKit
section
variable {c : Nat} {f : Fs}
/-- A touch: neither entries nor links nor the parent turn. -/
theorem WF.touch (h : WF c f) {i : Nat} {I I' : Ino} (hi : f[i]? = some (some I)) (h1 : I'.kind = I.kind) (h2 : I'.ents = I.ents) (h3 : I'.links = I.links) (h4 : I'.parent = I.parent) (h5 : I.isDir = true → I'.data = I.data) (h6 : bytesM (f.set i (some I')) ≤ 65536) (h7 : I'.holds ≤ c + 1) : WF (c + 1) (f.set i (some I')) := by
  have hil := (List.getElem?_eq_some_iff.1 hi).1
  have hget : ∀ m, (f.set i (some I'))[m]? = if m = i then some (some I') else f[m]? := fun m => by
    by_cases e : m = i
    · rw [if_pos e, e, List.getElem?_set_self hil]
    · rw [if_neg e, List.getElem?_set_ne (fun h => e h.symm)]
  have hsim : ∀ (m : Nat) M, f[m]? = some (some M) → ∃ M', (f.set i (some I'))[m]? = some (some M') ∧ M'.kind = M.kind ∧ M'.ents = M.ents ∧ M'.links = M.links ∧ M'.parent = M.parent := fun m M hm => by
    rw [hget]
    by_cases e : m = i
    · subst e
      rw [hi] at hm
      cases hm
      exact ⟨I', if_pos rfl, h1, h2, h3, h4⟩
    · exact ⟨M, by rw [if_neg e, hm], rfl, rfl, rfl, rfl⟩
  have hcnt : ∀ n, cntF (f.set i (some I')) n = cntF f n := fun n => by
    have := sumF_set (fun I => cntE I.ents n) f i _ (some I') hi
    simp only [optF, h2] at this
    unfold cntF
    omega
  have htot : sumF (fun I => I.ents.length) (f.set i (some I')) = sumF (fun I => I.ents.length) f := by
    have := sumF_set (fun I => I.ents.length) f i _ (some I') hi
    simp only [optF, h2] at this
    omega
  have hdeep : ∀ d n, Deep f d n → Deep (f.set i (some I')) d n := fun d n hd => deep_on (fun _ => True) (fun n M _ _ hn => by
    obtain ⟨m, rfl, hm⟩ := nat_node hn
    obtain ⟨M', k1, _, _, _, k2⟩ := hsim m M hm
    exact ⟨⟨M', node_nat k1, k2⟩, trivial⟩) hd trivial
  have hOk : ∀ (m : Nat) M, f[m]? = some (some M) → ∀ M', M'.kind = M.kind → M'.ents = M.ents → M'.links = M.links → M'.parent = M.parent → (M.isDir = true → M'.data = M.data) → M'.holds ≤ c + 1 → OkI (c + 1) (f.set i (some I')) m M' := fun m M hm M' k1 k2 k3 k4 k5 k6 => by
    have k := h.ino m M hm
    have hd : M'.isDir = M.isDir := by unfold Ino.isDir; rw [k1]
    refine ⟨by rw [k2]; exact k.srt, fun e he => ?_, by rw [k2]; exact k.name, by rw [k1]; exact k.kind, by rw [hd, k2]; exact k.file, fun hh => ?_, by rw [hd, k3]; exact k.one, by rw [hd, k3, k2]; exact k.gone, fun hh hl h0 => ?_, by rw [hcnt, k3]; exact k.cnt, by rw [k3]; have := k.links; omega, k6, fun hh hl => ?_⟩
    · rw [k2] at he
      obtain ⟨h8, J, hJ⟩ := k.live e he
      obtain ⟨J', hJ', _⟩ := hsim _ J hJ
      exact ⟨h8, J', hJ'⟩
    · rw [hd] at hh
      rw [k5 hh]
      exact k.dat hh
    · rw [hd] at hh
      rw [k3] at hl
      obtain ⟨m', P, x, hp, hP, hx⟩ := k.up hh hl h0
      obtain ⟨P', hP', _, q2, _⟩ := hsim _ P hP
      exact ⟨m', P', x, by rw [k4]; exact hp, hP', by rw [q2]; exact hx⟩
    · rw [hd] at hh
      rw [k3] at hl
      obtain ⟨d, hd⟩ := k.deep hh hl
      exact ⟨d, hdeep _ _ hd⟩
  refine ⟨by rw [List.length_set]; exact h.len, ?_, h6, by rw [htot]; have := h.tot; omega, fun m M hm => ?_⟩
  · obtain ⟨R, hR, k1, k2, k3⟩ := h.root
    obtain ⟨R', hR', q1, _, q3, q4⟩ := hsim 0 R hR
    refine ⟨R', hR', ?_, by rw [q3]; exact k2, by rw [q4]; exact k3⟩
    unfold Ino.isDir at k1 ⊢
    rw [q1]
    exact k1
  · rw [hget] at hm
    by_cases e : m = i
    · subst e
      rw [if_pos rfl] at hm
      cases hm
      exact hOk m I hi _ h1 h2 h3 h4 h5 h7
    · rw [if_neg e] at hm
      exact hOk m M hm M rfl rfl rfl rfl (fun _ => rfl) (by have := (h.ino m M hm).holds; omega)
/-- A new inode. -/
theorem WF.made (h : WF c f) {i : Nat} {D I : Ino} (hi : f[i]? = some (some D)) {x : ByteArray} (hd : D.isDir = true) (hl : D.links ≠ 0) (hx : lookM D.ents x = 0) (hn : nameOK x) (hc : ¬ 100 ≤ countM f) (h1 : I.kind = 1 ∨ I.kind = 2) (h2 : I.ents = []) (h3 : I.data = []) (h4 : I.links = 1) (h5 : I.holds = 0) (h6 : I.isDir = true → I.parent = i + 1) :
    WF (c + 1) (setEnts (putNew f I) (i + 1) (fun l => addM l x (free f + 1))) := by
  obtain ⟨k, hk⟩ : ∃ k, free f = k := ⟨_, rfl⟩
  rw [hk]
  have hkl : ∀ K, f[k]? ≠ some (some K) := fun K hK => by
    by_cases hlt : free f < f.length
    · have := free_get f hlt
      rw [hk, hK] at this
      cases this
    · have := (free_all f hlt).1
      have := (List.getElem?_eq_some_iff.1 hK).1
      omega
  have hik : i ≠ k := fun e => hkl D (by rw [← e]; exact hi)
  have hpg := fun m => putNew_get f I m
  rw [hk] at hpg
  have hpi : (putNew f I)[i]? = some (some D) := by rw [hpg, if_neg hik]; exact hi
  have hget : ∀ m, (setEnts (putNew f I) (i + 1) (fun l => addM l x (k + 1)))[m]? = if m = i then some (some { D with ents := addM D.ents x (k + 1) }) else if m = k then some (some I) else f[m]? := fun m => by
    rw [setEnts_get hpi, hpg]
  have hset : setEnts (putNew f I) (i + 1) (fun l => addM l x (k + 1)) = (putNew f I).set i (some { D with ents := addM D.ents x (k + 1) }) := setEnts_at hpi _
  have hsum : ∀ g : Ino → Nat, sumF g (setEnts (putNew f I) (i + 1) (fun l => addM l x (k + 1))) + g D = sumF g f + g I + g { D with ents := addM D.ents x (k + 1) } := fun g => by
    rw [hset]
    have h8 := sumF_set g (putNew f I) i _ (some { D with ents := addM D.ents x (k + 1) }) hpi
    rw [putNew_sum] at h8
    simpa [optF] using h8
  have hlen : (setEnts (putNew f I) (i + 1) (fun l => addM l x (k + 1))).length ≤ 100 := by
    rw [hset, List.length_set]
    exact putNew_len2 f I h.len hc
  obtain ⟨F, hF⟩ : ∃ F, setEnts (putNew f I) (i + 1) (fun l => addM l x (k + 1)) = F := ⟨_, rfl⟩
  rw [hF] at hget hsum hlen ⊢
  clear hF hset hpi hpg
  have hcnt : ∀ n, cntF F n = cntF f n + (if k + 1 = n then 1 else 0) := fun n => by
    have h8 : sumF (fun I => cntE I.ents n) F + cntE D.ents n = sumF (fun I => cntE I.ents n) f + cntE I.ents n + cntE (addM D.ents x (k + 1)) n := hsum _
    have h9 : cntE I.ents n = 0 := by rw [h2]; rfl
    rw [cntE_add] at h8
    unfold cntF
    omega
  have hsim : ∀ (m : Nat) M, f[m]? = some (some M) → ∃ M', F[m]? = some (some M') ∧ M'.kind = M.kind ∧ (∀ e ∈ M.ents, e ∈ M'.ents) ∧ M'.links = M.links ∧ M'.parent = M.parent := fun m M hm => by
    rw [hget]
    by_cases e : m = i
    · subst e
      rw [hi] at hm
      cases hm
      exact ⟨_, if_pos rfl, rfl, fun e he => addM_mem.2 (.inr he), rfl, rfl⟩
    · rw [if_neg e]
      have e2 : m ≠ k := fun e => hkl M (by rw [← e]; exact hm)
      rw [if_neg e2]
      exact ⟨M, hm, rfl, fun e he => he, rfl, rfl⟩
  have hdeep : ∀ d n, Deep f d n → Deep F d n := fun d n hd => deep_on (fun _ => True) (fun n M _ _ hn => by
    obtain ⟨m, rfl, hm⟩ := nat_node hn
    obtain ⟨M', k1, _, _, _, k2⟩ := hsim m M hm
    exact ⟨⟨M', node_nat k1, k2⟩, trivial⟩) hd trivial
  have hlive : ∀ (m : Nat) M, f[m]? = some (some M) → ∀ e ∈ M.ents, 2 ≤ e.2 ∧ ∃ J, F[e.2 - 1]? = some (some J) := fun m M hm e he => by
    obtain ⟨h8, J, hJ⟩ := (h.ino m M hm).live e he
    obtain ⟨J', hJ', _⟩ := hsim _ J hJ
    exact ⟨h8, J', hJ'⟩
  have hup : ∀ (m : Nat) M, f[m]? = some (some M) → M.isDir = true → M.links = 1 → m ≠ 0 → ∃ (k : Nat) (P : Ino) (x : ByteArray), M.parent = k + 1 ∧ F[k]? = some (some P) ∧ (x, m + 1) ∈ P.ents := fun m M hm q1 q2 q3 => by
    obtain ⟨m', P, y, hp, hP, hy⟩ := (h.ino m M hm).up q1 q2 q3
    obtain ⟨P', hP', _, k2, _⟩ := hsim _ P hP
    exact ⟨m', P', y, hp, hP', k2 _ hy⟩
  have hD := h.ino i D hi
  have hDl : D.links = 1 := by have := hD.one hd; omega
  have hR0 : k ≠ 0 := fun e => by
    obtain ⟨R, hR, _⟩ := h.root
    exact hkl R (by rw [e]; exact hR)
  have hkF : F[k]? = some (some I) := by rw [hget, if_neg (Ne.symm hik), if_pos rfl]
  have hiF : F[i]? = some (some { D with ents := addM D.ents x (k + 1) }) := by rw [hget, if_pos rfl]
  refine ⟨hlen, ?_, ?_, ?_, fun m M hm => ?_⟩
  · obtain ⟨R, hR, k1, k2, k3⟩ := h.root
    obtain ⟨R', hR', q1, _, q3, q4⟩ := hsim 0 R hR
    refine ⟨R', hR', ?_, by rw [q3]; exact k2, by rw [q4]; exact k3⟩
    unfold Ino.isDir at k1 ⊢
    rw [q1]
    exact k1
  · have h8 := hsum (fun I => I.data.length)
    have h9 := h.bytes
    rw [bytesM_sum] at h9 ⊢
    simp only [h3, List.length_nil] at h8
    omega
  · have h8 := hsum (fun I => I.ents.length)
    have h9 := h.tot
    simp only [h2, List.length_nil, addM_len] at h8
    omega
  · rw [hget] at hm
    by_cases e : m = i
    · subst e
      rw [if_pos rfl] at hm
      cases hm
      have hnh := not_has hx (fun e he => by have := (hD.live e he).1; omega)
      refine ⟨addM_sorted hD.srt hnh _, fun e he => ?_, fun e he => ?_, hD.kind, fun h8 => ?_, hD.dat, hD.one, fun _ h9 => absurd h9 hl, hup m D hi, ?_, by have := hD.links; dsimp only; omega, by have := hD.holds; dsimp only; omega, fun h8 h9 => ?_⟩
      · rcases addM_mem.1 he with rfl | he
        · exact ⟨by dsimp only; omega, I, hkF⟩
        · exact hlive m D hi e he
      · rcases addM_mem.1 he with rfl | he
        · exact hn
        · exact hD.name e he
      · have h9 : D.isDir = false := h8
        rw [hd] at h9
        cases h9
      · rw [hcnt, if_neg (by omega)]
        exact hD.cnt
      · obtain ⟨d, h10⟩ := hD.deep hd hDl
        exact ⟨d, hdeep _ _ h10⟩
    · rw [if_neg e] at hm
      by_cases e2 : m = k
      · subst e2
        rw [if_pos rfl] at hm
        cases hm
        refine ⟨by rw [h2]; exact List.Pairwise.nil, by rw [h2]; exact fun e he => (nomatch he), by rw [h2]; exact fun e he => (nomatch he), h1, fun _ => h2, fun _ => h3, fun _ => by omega, fun _ _ => h2, fun h8 _ _ => ⟨i, _, x, h6 h8, hiF, addM_mem.2 (.inl rfl)⟩, ?_, by omega, by omega, fun h8 _ => ?_⟩
        · rw [hcnt, h.cnt0 hkl, if_pos rfl]
          omega
        · obtain ⟨d, h10⟩ := hD.deep hd hDl
          exact ⟨d + 1, .up d _ I (by omega) (node_nat hkF) (by rw [h6 h8]; exact hdeep _ _ h10)⟩
      · rw [if_neg e2] at hm
        have q := h.ino m M hm
        refine ⟨q.srt, hlive m M hm, q.name, q.kind, q.file, q.dat, q.one, q.gone, hup m M hm, ?_, by have := q.links; omega, by have := q.holds; omega, fun h8 h9 => ?_⟩
        · rw [hcnt, if_neg (by omega)]
          exact q.cnt
        · obtain ⟨d, h10⟩ := q.deep h8 h9
          exact ⟨d, hdeep _ _ h10⟩
/-- One more entry for a file. -/
theorem WF.linkd (h : WF c f) {i j : Nat} {D J : Ino} (hi : f[i]? = some (some D)) (hj : f[j]? = some (some J)) {x : ByteArray} (hd : D.isDir = true) (hJ : J.isDir = false) (hl : D.links ≠ 0) (hx : lookM D.ents x = 0) (hn : nameOK x) (hj0 : j ≠ 0) :
    WF (c + 1) (setLinks (setEnts f (i + 1) (fun l => addM l x (j + 1))) (j + 1) (· + 1)) := by
  have hij : i ≠ j := fun e => by
    subst e
    rw [hi] at hj
    cases hj
    rw [hd] at hJ
    cases hJ
  have hil := (List.getElem?_eq_some_iff.1 hi).1
  have hjl := (List.getElem?_eq_some_iff.1 hj).1
  have hj1 : (setEnts f (i + 1) (fun l => addM l x (j + 1)))[j]? = some (some J) := by rw [setEnts_get hi, if_neg (Ne.symm hij)]; exact hj
  have hget : ∀ m, (setLinks (setEnts f (i + 1) (fun l => addM l x (j + 1))) (j + 1) (· + 1))[m]? = if m = i then some (some { D with ents := addM D.ents x (j + 1) }) else if m = j then some (some { J with links := J.links + 1 }) else f[m]? := fun m => by
    rw [setLinks_at hj1]
    by_cases e : m = j
    · subst e
      rw [List.getElem?_set_self (by rw [setEnts_len hi]; exact hjl), if_neg (Ne.symm hij), if_pos rfl]
    · rw [List.getElem?_set_ne (fun h => e h.symm), setEnts_get hi, if_neg e]
  have hsum : ∀ g : Ino → Nat, sumF g (setLinks (setEnts f (i + 1) (fun l => addM l x (j + 1))) (j + 1) (· + 1)) + g D + g J = sumF g f + g { D with ents := addM D.ents x (j + 1) } + g { J with links := J.links + 1 } := fun g => by
    rw [setLinks_at hj1]
    have h8 := sumF_set g _ j _ (some { J with links := J.links + 1 }) hj1
    rw [setEnts_at hi] at h8 ⊢
    have h9 := sumF_set g f i _ (some { D with ents := addM D.ents x (j + 1) }) hi
    simp only [optF] at h8 h9
    omega
  have hlen : (setLinks (setEnts f (i + 1) (fun l => addM l x (j + 1))) (j + 1) (· + 1)).length = f.length := by rw [setLinks_at hj1, List.length_set, setEnts_len hi]
  obtain ⟨F, hF⟩ : ∃ F, setLinks (setEnts f (i + 1) (fun l => addM l x (j + 1))) (j + 1) (· + 1) = F := ⟨_, rfl⟩
  rw [hF] at hget hsum hlen ⊢
  clear hF hj1
  have hcnt : ∀ n, cntF F n = cntF f n + (if j + 1 = n then 1 else 0) := fun n => by
    have h8 := hsum (fun I => cntE I.ents n)
    simp only [cntE_add] at h8
    unfold cntF
    omega
  have hsim : ∀ (m : Nat) M, f[m]? = some (some M) → ∃ M', F[m]? = some (some M') ∧ M'.kind = M.kind ∧ (∀ e ∈ M.ents, e ∈ M'.ents) ∧ (M.isDir = true → M'.links = M.links) ∧ M'.parent = M.parent := fun m M hm => by
    rw [hget]
    by_cases e : m = i
    · subst e
      rw [hi] at hm
      cases hm
      exact ⟨_, if_pos rfl, rfl, fun e he => addM_mem.2 (.inr he), fun _ => rfl, rfl⟩
    · rw [if_neg e]
      by_cases e2 : m = j
      · subst e2
        rw [hj] at hm
        cases hm
        exact ⟨{ J with links := J.links + 1 }, if_pos rfl, rfl, fun e he => he, (fun h8 => by rw [hJ] at h8; cases h8), rfl⟩
      · rw [if_neg e2]
        exact ⟨M, hm, rfl, fun e he => he, fun _ => rfl, rfl⟩
  have hdeep : ∀ d n, Deep f d n → Deep F d n := fun d n hd => deep_on (fun _ => True) (fun n M _ _ hn => by
    obtain ⟨m, rfl, hm⟩ := nat_node hn
    obtain ⟨M', k1, _, _, _, k2⟩ := hsim m M hm
    exact ⟨⟨M', node_nat k1, k2⟩, trivial⟩) hd trivial
  have hlive : ∀ (m : Nat) M, f[m]? = some (some M) → ∀ e ∈ M.ents, 2 ≤ e.2 ∧ ∃ J, F[e.2 - 1]? = some (some J) := fun m M hm e he => by
    obtain ⟨h8, J, hJ⟩ := (h.ino m M hm).live e he
    obtain ⟨J', hJ', _⟩ := hsim _ J hJ
    exact ⟨h8, J', hJ'⟩
  have hup : ∀ (m : Nat) M, f[m]? = some (some M) → M.isDir = true → M.links = 1 → m ≠ 0 → ∃ (k : Nat) (P : Ino) (x : ByteArray), M.parent = k + 1 ∧ F[k]? = some (some P) ∧ (x, m + 1) ∈ P.ents := fun m M hm q1 q2 q3 => by
    obtain ⟨m', P, y, hp, hP, hy⟩ := (h.ino m M hm).up q1 q2 q3
    obtain ⟨P', hP', _, k2, _⟩ := hsim _ P hP
    exact ⟨m', P', y, hp, hP', k2 _ hy⟩
  have hD := h.ino i D hi
  have hDl : D.links = 1 := by have := hD.one hd; omega
  have hjF : F[j]? = some (some { J with links := J.links + 1 }) := by rw [hget, if_neg (Ne.symm hij), if_pos rfl]
  refine ⟨by rw [hlen]; exact h.len, ?_, ?_, ?_, fun m M hm => ?_⟩
  · obtain ⟨R, hR, k1, k2, k3⟩ := h.root
    obtain ⟨R', hR', q1, _, q3, q4⟩ := hsim 0 R hR
    refine ⟨R', hR', ?_, by rw [q3 k1]; exact k2, by rw [q4]; exact k3⟩
    unfold Ino.isDir at k1 ⊢
    rw [q1]
    exact k1
  · have h8 := hsum (fun I => I.data.length)
    have h9 := h.bytes
    rw [bytesM_sum] at h9 ⊢
    dsimp only at h8
    omega
  · have h8 := hsum (fun I => I.ents.length)
    have h9 := h.tot
    simp only [addM_len] at h8
    omega
  · rw [hget] at hm
    by_cases e : m = i
    · subst e
      rw [if_pos rfl] at hm
      cases hm
      have hnh := not_has hx (fun e he => by have := (hD.live e he).1; omega)
      refine ⟨addM_sorted hD.srt hnh _, fun e he => ?_, fun e he => ?_, hD.kind, fun h8 => ?_, hD.dat, hD.one, fun _ h9 => absurd h9 hl, hup m D hi, ?_, by have := hD.links; dsimp only; omega, by have := hD.holds; dsimp only; omega, fun h8 h9 => ?_⟩
      · rcases addM_mem.1 he with rfl | he
        · exact ⟨by dsimp only; omega, _, hjF⟩
        · exact hlive m D hi e he
      · rcases addM_mem.1 he with rfl | he
        · exact hn
        · exact hD.name e he
      · have h9 : D.isDir = false := h8
        rw [hd] at h9
        cases h9
      · rw [hcnt, if_neg (by omega)]
        exact hD.cnt
      · obtain ⟨d, h10⟩ := hD.deep hd hDl
        exact ⟨d, hdeep _ _ h10⟩
    · rw [if_neg e] at hm
      by_cases e2 : m = j
      · subst e2
        rw [if_pos rfl] at hm
        cases hm
        have q := h.ino m J hj
        have hno : ∀ {p : Prop}, ({ J with links := J.links + 1 } : Ino).isDir = true → p := fun h8 => by
          have h9 : J.isDir = true := h8
          rw [hJ] at h9
          cases h9
        refine ⟨q.srt, hlive m J hj, q.name, q.kind, q.file, fun h8 => hno h8, fun h8 => hno h8, fun h8 => hno h8, fun h8 => hno h8, ?_, by have := q.links; dsimp only; omega, by have := q.holds; dsimp only; omega, fun h8 => hno h8⟩
        rw [hcnt, if_pos rfl]
        have := q.cnt
        dsimp only
        omega
      · rw [if_neg e2] at hm
        have q := h.ino m M hm
        refine ⟨q.srt, hlive m M hm, q.name, q.kind, q.file, q.dat, q.one, q.gone, hup m M hm, ?_, by have := q.links; omega, by have := q.holds; omega, fun h8 h9 => ?_⟩
        · rw [hcnt, if_neg (by omega)]
          exact q.cnt
        · obtain ⟨d, h10⟩ := q.deep h8 h9
          exact ⟨d, hdeep _ _ h10⟩
end
end Go.Proofs.YtmilagppbepnbaaGreat
/- What holds along all calls is kept: unlink, rename. No condition. -/
namespace Go.Proofs.YtmilagppbepnbaaGreat
open Go.RowKit
set_option linter.unusedVariables false
set_option linter.unusedSimpArgs false
section
variable {c : Nat} {f : Fs}
theorem unlinkM_all {i j : Nat} {D J : Ino} {x : ByteArray} (hi : f[i]? = some (some D)) (hj : f[j]? = some (some J)) (hx : lookM D.ents x = j + 1) (hij : i ≠ j) :
    ∃ o : Option Ino, (o = none ∧ J.links - 1 = 0 ∨ o = some { J with links := J.links - 1 }) ∧ (unlinkM f (i + 1) x).length = f.length ∧
      (∀ m, (unlinkM f (i + 1) x)[m]? = if m = i then some (some { D with ents := remM D.ents x }) else if m = j then some o else f[m]?) ∧
      ∀ g : Ino → Nat, sumF g (unlinkM f (i + 1) x) + g D + g J = sumF g f + g { D with ents := remM D.ents x } + optF g o := by
  have hil := (List.getElem?_eq_some_iff.1 hi).1
  have hjl := (List.getElem?_eq_some_iff.1 hj).1
  have hj1 : (setEnts f (i + 1) (fun l => remM l x))[j]? = some (some J) := by rw [setEnts_get hi, if_neg (Ne.symm hij)]; exact hj
  have hl1 := setEnts_len hi (fun l => remM l x)
  have hj2 : (setLinks (setEnts f (i + 1) (fun l => remM l x)) (j + 1) (· - 1))[j]? = some (some { J with links := J.links - 1 }) := by
    rw [setLinks_at hj1, List.getElem?_set_self (by rw [hl1]; exact hjl)]
  refine ⟨if J.links - 1 = 0 ∧ J.holds = 0 then none else some { J with links := J.links - 1 }, ?_, unlinkM_len hi hj hx, fun m => ?_, fun g => ?_⟩
  · by_cases e : J.links - 1 = 0 ∧ J.holds = 0
    · rw [if_pos e]
      exact .inl ⟨rfl, e.1⟩
    · rw [if_neg e]
      exact .inr rfl
  · by_cases e : m = j
    · subst e
      rw [if_neg (Ne.symm hij), if_pos rfl, unlinkM_eq hi hx, relM_at hj2]
      dsimp only
      by_cases e : J.links - 1 = 0 ∧ J.holds = 0
      · rw [if_pos e, if_pos e, List.getElem?_set_self (List.getElem?_eq_some_iff.1 hj2).1]
      · rw [if_neg e, if_neg e]
        exact hj2
    · rw [unlinkM_get hi hj hx e, if_neg e]
  · have h8 := sumF_set g _ j _ (some { J with links := J.links - 1 }) hj1
    have h9 := sumF_set g f i _ (some { D with ents := remM D.ents x }) hi
    rw [setEnts_at hi] at h8
    rw [unlinkM_eq hi hx, relM_at hj2]
    dsimp only
    by_cases e : J.links - 1 = 0 ∧ J.holds = 0
    · rw [if_pos e, if_pos e]
      have h10 := sumF_set g _ j _ none hj2
      rw [setLinks_at hj1, setEnts_at hi] at h10 ⊢
      simp only [optF] at h8 h9 h10 ⊢
      omega
    · rw [if_neg e, if_neg e, setLinks_at hj1, setEnts_at hi]
      simp only [optF] at h8 h9 ⊢
      omega
/-- What unlink leaves of the slots. -/
structure Unl (f F : Fs) (i j : Nat) (D J : Ino) (x : ByteArray) (o : Option Ino) : Prop where
  o_is : o = none ∧ J.links - 1 = 0 ∨ o = some { J with links := J.links - 1 }
  len : F.length = f.length
  get : ∀ m, F[m]? = if m = i then some (some { D with ents := remM D.ents x }) else if m = j then some o else f[m]?
  sum : ∀ g : Ino → Nat, sumF g F + g D + g J = sumF g f + g { D with ents := remM D.ents x } + optF g o
theorem WF.unl (h : WF c f) {i j : Nat} {D J : Ino} {x : ByteArray} (hi : f[i]? = some (some D)) (hj : f[j]? = some (some J)) (hx : lookM D.ents x = j + 1) (hJ : J.ents = []) {F : Fs} {o : Option Ino} (u : Unl f F i j D J x o) : WF c F ∧ ∀ d n, Deep f d n → LD f n → n ≠ j + 1 → Deep F d n := by
  obtain ⟨u1, u2, u3, u4⟩ := u
  have hxm := lookM_mem (l := D.ents) (x := x) (by omega)
  rw [hx] at hxm
  have hij : i ≠ j := fun e => by
    subst e
    rw [hi] at hj
    cases hj
    rw [hJ] at hxm
    cases hxm
  have hD := h.ino i D hi
  have hdd := h.isdir hi hxm
  have hDl := h.linked1 hi hxm
  have hJk := h.ino j J hj
  have hj0 : 1 ≤ j := by have := (hD.live _ hxm).1; dsimp only at this; omega
  have hcnt : ∀ n, cntF F n + (if j + 1 = n then 1 else 0) = cntF f n := fun n => by
    have h8 := u4 (fun I => cntE I.ents n)
    have h9 := cntE_rem (l := D.ents) (x := x) (by omega) n
    have h10 : optF (fun I => cntE I.ents n) o = 0 := by
      rcases u1 with ⟨rfl, _⟩ | rfl
      · rfl
      · simp [optF, hJ, cntE]
    rw [h10] at h8
    rw [hx] at h9
    dsimp only at h8
    have h11 : cntE J.ents n = 0 := by rw [hJ]; rfl
    unfold cntF
    omega
  have hiF : F[i]? = some (some { D with ents := remM D.ents x }) := by rw [u3, if_pos rfl]
  have hoth : ∀ m, m ≠ i → m ≠ j → F[m]? = f[m]? := fun m h1 h2 => by rw [u3, if_neg h1, if_neg h2]
  have hjF : F[j]? = some o := by rw [u3, if_neg (Ne.symm hij), if_pos rfl]
  have hsim : ∀ (m : Nat) M, m ≠ j → f[m]? = some (some M) → ∃ M', F[m]? = some (some M') ∧ M'.kind = M.kind ∧ (∀ e ∈ M.ents, e.2 ≠ j + 1 → e ∈ M'.ents) ∧ M'.links = M.links ∧ M'.parent = M.parent := fun m M hmj hm => by
    by_cases e : m = i
    · subst e
      rw [hi] at hm
      cases hm
      refine ⟨_, hiF, rfl, fun e he h2 => (remM_mem hD.srt).2 ⟨he, fun h3 => h2 ?_⟩, rfl, rfl⟩
      have h4 := lookM_of hD.srt (x := e.1) (n := e.2) he
      rw [h3, hx] at h4
      exact h4.symm
    · exact ⟨M, by rw [hoth m e hmj]; exact hm, rfl, fun e he _ => he, rfl, rfl⟩
  have hsub : ∀ (m : Nat) M', F[m]? = some (some M') → ∃ M, f[m]? = some (some M) ∧ ∀ e ∈ M'.ents, e ∈ M.ents := fun m M' hm => by
    rw [u3] at hm
    by_cases e : m = i
    · subst e
      rw [if_pos rfl] at hm
      cases hm
      exact ⟨D, hi, fun e he => ((remM_mem hD.srt).1 he).1⟩
    · rw [if_neg e] at hm
      by_cases e2 : m = j
      · subst e2
        rw [if_pos rfl] at hm
        refine ⟨J, hj, fun e he => ?_⟩
        rcases u1 with ⟨rfl, _⟩ | rfl
        · cases hm
        · cases hm
          exact he
      · rw [if_neg e2] at hm
        exact ⟨M', hm, fun e he => he⟩
  have hlive : ∀ (m : Nat) M', F[m]? = some (some M') → ∀ e ∈ M'.ents, 2 ≤ e.2 ∧ ∃ J, F[e.2 - 1]? = some (some J) := fun m M' hm e he => by
    obtain ⟨M, hM, hse⟩ := hsub m M' hm
    obtain ⟨h8, K, hK⟩ := (h.ino m M hM).live e (hse e he)
    refine ⟨h8, ?_⟩
    by_cases e3 : e.2 - 1 = j
    · rw [e3, hjF]
      rcases u1 with ⟨_, h9⟩ | rfl
      · have h10 := cnt_mem hm he
        have h11 := hcnt e.2
        rw [if_pos (by omega)] at h11
        have h12 := hJk.cnt
        rw [show j + 1 = e.2 by omega] at h12
        omega
      · exact ⟨_, rfl⟩
    · obtain ⟨K', hK', _⟩ := hsim _ K e3 hK
      exact ⟨K', hK'⟩
  have hup : ∀ (m : Nat) M, m ≠ j → f[m]? = some (some M) → M.isDir = true → M.links = 1 → m ≠ 0 → ∃ (k : Nat) (P : Ino) (x : ByteArray), M.parent = k + 1 ∧ F[k]? = some (some P) ∧ (x, m + 1) ∈ P.ents := fun m M hmj hm q1 q2 q3 => by
    obtain ⟨m', P, y, hp, hP, hy⟩ := (h.ino m M hm).up q1 q2 q3
    have hmj' : m' ≠ j := fun e => by
      subst e
      rw [hj] at hP
      cases hP
      rw [hJ] at hy
      cases hy
    obtain ⟨P', hP', _, k2, _⟩ := hsim _ P hmj' hP
    exact ⟨m', P', y, hp, hP', k2 _ hy (by dsimp only; omega)⟩
  have hdeep : ∀ d n, Deep f d n → LD f n → n ≠ j + 1 → Deep F d n := fun d n hd hq hn => deep_on (fun n => LD f n ∧ n ≠ j + 1) (fun n M hq h1 hn => by
    obtain ⟨q1, m', P, y, q2, q3, q4⟩ := h.ldUp hq.1 h1 hn
    obtain ⟨m, rfl, hm⟩ := nat_node hn
    obtain ⟨M', k1, _, _, _, k2⟩ := hsim m M (by have := hq.2; omega) hm
    refine ⟨⟨M', node_nat k1, k2⟩, q1, fun e => ?_⟩
    obtain rfl : m' = j := by omega
    rw [hj] at q3
    cases q3
    rw [hJ] at q4
    cases q4) hd ⟨hq, hn⟩
  refine ⟨⟨by rw [u2]; exact h.len, ?_, ?_, ?_, fun m M hm => ?_⟩, hdeep⟩
  · obtain ⟨R, hR, k1, k2, k3⟩ := h.root
    obtain ⟨R', hR', q1, _, q3, q4⟩ := hsim 0 R (by omega) hR
    refine ⟨R', hR', ?_, by rw [q3]; exact k2, by rw [q4]; exact k3⟩
    unfold Ino.isDir at k1 ⊢
    rw [q1]
    exact k1
  · have h8 := u4 (fun I => I.data.length)
    have h9 := h.bytes
    rw [bytesM_sum] at h9 ⊢
    have h10 : optF (fun I => I.data.length) o ≤ J.data.length := by
      rcases u1 with ⟨rfl, _⟩ | rfl
      · exact Nat.zero_le _
      · exact Nat.le_refl _
    dsimp only at h8
    omega
  · have h8 := u4 (fun I => I.ents.length)
    have h9 := h.tot
    have h10 : optF (fun I => I.ents.length) o ≤ J.ents.length := by
      rcases u1 with ⟨rfl, _⟩ | rfl
      · exact Nat.zero_le _
      · exact Nat.le_refl _
    have h11 := remM_len (l := D.ents) (x := x) (by omega)
    dsimp only at h8
    omega
  · have hl := hlive m M hm
    rw [u3] at hm
    by_cases e : m = i
    · subst e
      rw [if_pos rfl] at hm
      cases hm
      refine ⟨remM_sorted hD.srt x, hl, fun e he => hD.name e ((remM_mem hD.srt).1 he).1, hD.kind, fun h8 => ?_, hD.dat, hD.one, fun _ h9 => ?_, hup m D hij hi, ?_, hD.links, hD.holds, fun h8 h9 => ?_⟩
      · have h9 : D.isDir = false := h8
        rw [hdd] at h9
        cases h9
      · have h10 : D.links = 0 := h9
        omega
      · have h8 := hcnt (m + 1)
        have h9 := hD.cnt
        dsimp only
        omega
      · obtain ⟨d, h10⟩ := hD.deep hdd hDl
        exact ⟨d, hdeep _ _ h10 ⟨m, D, rfl, hi, hdd, hDl⟩ (by omega)⟩
    · rw [if_neg e] at hm
      by_cases e2 : m = j
      · subst e2
        rw [if_pos rfl] at hm
        rcases u1 with ⟨rfl, _⟩ | rfl
        · cases hm
        · cases hm
          have hno : ∀ {p : Prop}, ({ J with links := J.links - 1 } : Ino).isDir = true → J.links - 1 = 1 → p := fun h8 h9 => by
            have := hJk.one h8
            omega
          refine ⟨hJk.srt, hl, hJk.name, hJk.kind, hJk.file, hJk.dat, fun h8 => ?_, fun _ _ => hJ, fun h8 h9 => hno h8 h9, ?_, ?_, hJk.holds, fun h8 h9 => hno h8 h9⟩
          · have := hJk.one h8
            dsimp only
            omega
          · have h8 := hcnt (m + 1)
            rw [if_pos rfl] at h8
            have h9 := hJk.cnt
            dsimp only
            omega
          · have := hJk.links
            dsimp only
            omega
      · rw [if_neg e2] at hm
        have q := h.ino m M hm
        refine ⟨q.srt, hl, q.name, q.kind, q.file, q.dat, q.one, q.gone, hup m M e2 hm, ?_, q.links, q.holds, fun h8 h9 => ?_⟩
        · have h8 := hcnt (m + 1)
          have h9 := q.cnt
          omega
        · obtain ⟨d, h10⟩ := q.deep h8 h9
          exact ⟨d, hdeep _ _ h10 ⟨m, M, rfl, hm, h8, h9⟩ (by omega)⟩
theorem WF.unlinked (h : WF c f) {i j : Nat} {D J : Ino} {x : ByteArray} (hi : f[i]? = some (some D)) (hj : f[j]? = some (some J)) (hx : lookM D.ents x = j + 1) (hJ : J.ents = []) : ∃ o, Unl f (unlinkM f (i + 1) x) i j D J x o := by
  have hxm := lookM_mem (l := D.ents) (x := x) (by omega)
  have hij : i ≠ j := fun e => by
    subst e
    rw [hi] at hj
    cases hj
    rw [hJ] at hxm
    cases hxm
  obtain ⟨o, h1, h2, h3, h4⟩ := unlinkM_all hi hj hx hij
  exact ⟨o, h1, h2, h3, h4⟩
end
end Go.Proofs.YtmilagppbepnbaaGreat
/- What holds along all calls is kept by rename. No condition. -/
namespace Go.Proofs.YtmilagppbepnbaaGreat
open Go.RowKit
set_option linter.unusedVariables false
set_option linter.unusedSimpArgs false
section
variable {c : Nat} {f : Fs}
theorem WF.renm (h : WF c f) {i j e : Nat} {D J E : Ino} {x y : ByteArray} (hi : f[i]? = some (some D)) (hj : f[j]? = some (some J)) (hE : f[e]? = some (some E)) (hx : lookM D.ents x = j + 1) (hd : E.isDir = true) (hl : E.links ≠ 0) (hy : lookM E.ents y = 0) (hn : nameOK y) (hav : J.isDir = true → ∃ d, Av f (j + 1) d (e + 1)) :
    WF c (renM f (i + 1) x (e + 1) y (j + 1)) := by
  have hxm := lookM_mem (l := D.ents) (x := x) (by omega)
  rw [hx] at hxm
  have hD := h.ino i D hi
  have hJk := h.ino j J hj
  have hEk := h.ino e E hE
  have hEl : E.links = 1 := by have := hEk.one hd; omega
  have hj0 : 1 ≤ j := by have := (hD.live _ hxm).1; dsimp only at this; omega
  have hji : j ≠ i := fun e => by
    subst e
    cases hJd : J.isDir with
    | true => exact (h.child hi hj hxm hJd).2.2.2 rfl
    | false =>
      rw [hi] at hj
      cases hj
      rw [hJk.file hJd] at hxm
      cases hxm
  have hje : j ≠ e := fun k => by
    cases hJd : J.isDir with
    | true =>
      obtain ⟨d, hA⟩ := hav hJd
      exact av_ne hA (by omega)
    | false =>
      subst k
      rw [hE] at hj
      cases hj
      rw [hd] at hJd
      cases hJd
  -- the three steps
  obtain ⟨D1, hD1⟩ : ∃ D1 : Ino, D1 = { D with ents := remM D.ents x } := ⟨_, rfl⟩
  have s1 : setEnts f (i + 1) (fun l => remM l x) = f.set i (some D1) := by rw [hD1]; exact setEnts_at hi _
  have hil := (List.getElem?_eq_some_iff.1 hi).1
  have hel := (List.getElem?_eq_some_iff.1 hE).1
  have hjl := (List.getElem?_eq_some_iff.1 hj).1
  have g1 : ∀ m, (f.set i (some D1))[m]? = if m = i then some (some D1) else f[m]? := fun m => by
    by_cases k : m = i
    · rw [if_pos k, k, List.getElem?_set_self hil]
    · rw [if_neg k, List.getElem?_set_ne (fun h => k h.symm)]
  obtain ⟨E1, hE1⟩ : ∃ E1 : Ino, E1 = if e = i then D1 else E := ⟨_, rfl⟩
  have he1 : (f.set i (some D1))[e]? = some (some E1) := by
    rw [g1, hE1]
    by_cases k : e = i
    · rw [if_pos k, if_pos k]
    · rw [if_neg k, if_neg k]
      exact hE
  obtain ⟨E2, hE2⟩ : ∃ E2 : Ino, E2 = { E1 with ents := addM E1.ents y (j + 1) } := ⟨_, rfl⟩
  have s2 : setEnts (f.set i (some D1)) (e + 1) (fun l => addM l y (j + 1)) = (f.set i (some D1)).set e (some E2) := by rw [hE2]; exact setEnts_at he1 _
  have g2 : ∀ m, ((f.set i (some D1)).set e (some E2))[m]? = if m = e then some (some E2) else if m = i then some (some D1) else f[m]? := fun m => by
    by_cases k : m = e
    · rw [if_pos k, k, List.getElem?_set_self (by rw [List.length_set]; exact hel)]
    · rw [if_neg k, List.getElem?_set_ne (fun h => k h.symm), g1]
  have hj2 : ((f.set i (some D1)).set e (some E2))[j]? = some (some J) := by rw [g2, if_neg hje, if_neg hji]; exact hj
  have s3 : renM f (i + 1) x (e + 1) y (j + 1) = ((f.set i (some D1)).set e (some E2)).set j (some { J with parent := e + 1 }) := by
    unfold renM
    rw [s1, s2, show ((j + 1 : Nat) : Int) = (j : Int) + 1 by omega, modN_at hj2]
  have hget : ∀ m, (renM f (i + 1) x (e + 1) y (j + 1))[m]? = if m = j then some (some { J with parent := e + 1 }) else if m = e then some (some E2) else if m = i then some (some D1) else f[m]? := fun m => by
    rw [s3]
    by_cases k : m = j
    · rw [if_pos k, k, List.getElem?_set_self (by rw [List.length_set, List.length_set]; exact hjl)]
    · rw [if_neg k, List.getElem?_set_ne (fun h => k h.symm), g2]
  have hlen : (renM f (i + 1) x (e + 1) y (j + 1)).length = f.length := by rw [s3, List.length_set, List.length_set, List.length_set]
  have hsum : ∀ g : Ino → Nat, sumF g (renM f (i + 1) x (e + 1) y (j + 1)) + g D + g E1 + g J = sumF g f + g D1 + g E2 + g { J with parent := e + 1 } := fun g => by
    rw [s3]
    have h1 := sumF_set g f i _ (some D1) hi
    have h2 := sumF_set g _ e _ (some E2) he1
    have h3 := sumF_set g _ j _ (some { J with parent := e + 1 }) hj2
    simp only [optF] at h1 h2 h3
    omega
  obtain ⟨F, hF⟩ : ∃ F, renM f (i + 1) x (e + 1) y (j + 1) = F := ⟨_, rfl⟩
  rw [hF] at hget hlen hsum ⊢
  clear hF s1 s2 s3 g1 g2
  -- what a slot is like
  have hE1k : E1.kind = E.kind ∧ E1.mode = E.mode ∧ E1.links = E.links ∧ E1.holds = E.holds ∧ E1.data = E.data ∧ E1.parent = E.parent ∧ (∀ u ∈ E1.ents, u ∈ E.ents) ∧ (∀ u ∈ E.ents, u.2 ≠ j + 1 → u ∈ E1.ents) ∧ Sorted (nms E1.ents) := by
    by_cases k : e = i
    · subst k
      rw [if_pos rfl] at hE1
      rw [hi] at hE
      cases hE
      subst hE1
      subst hD1
      refine ⟨rfl, rfl, rfl, rfl, rfl, rfl, fun u hu => ((remM_mem hD.srt).1 hu).1, fun u hu h2 => (remM_mem hD.srt).2 ⟨hu, fun h3 => h2 ?_⟩, remM_sorted hD.srt x⟩
      have h4 := lookM_of hD.srt (x := u.1) (n := u.2) hu
      rw [h3, hx] at h4
      exact h4.symm
    · rw [if_neg k] at hE1
      subst hE1
      exact ⟨rfl, rfl, rfl, rfl, rfl, rfl, fun _ hu => hu, fun _ hu _ => hu, hEk.srt⟩
  obtain ⟨q1, q2, q3, q4, q5, q6, q7, q8, q9⟩ := hE1k
  have hcnt : ∀ n, cntF F n = cntF f n := fun n => by
    have h8 : sumF (fun I => cntE I.ents n) F + cntE D.ents n + cntE E1.ents n + cntE J.ents n = sumF (fun I => cntE I.ents n) f + cntE D1.ents n + cntE E2.ents n + cntE J.ents n := hsum _
    have h9 := cntE_rem (l := D.ents) (x := x) (by omega) n
    rw [hx] at h9
    rw [hD1, hE2] at h8
    dsimp only at h8
    rw [cntE_add] at h8
    unfold cntF
    omega
  have hsim : ∀ (m : Nat) M, f[m]? = some (some M) → ∃ M', F[m]? = some (some M') ∧ M'.kind = M.kind ∧ (∀ u ∈ M.ents, u.2 ≠ j + 1 → u ∈ M'.ents) ∧ M'.links = M.links ∧ (m ≠ j → M'.parent = M.parent) := fun m M hm => by
    rw [hget]
    by_cases k : m = j
    · subst k
      rw [hj] at hm
      cases hm
      exact ⟨_, if_pos rfl, rfl, fun u hu _ => hu, rfl, fun k => absurd rfl k⟩
    · rw [if_neg k]
      by_cases k2 : m = e
      · subst k2
        rw [hE] at hm
        cases hm
        refine ⟨E2, if_pos rfl, by rw [hE2]; exact q1, fun u hu h2 => ?_, by rw [hE2]; exact q3, fun _ => by rw [hE2]; exact q6⟩
        rw [hE2]
        exact addM_mem.2 (.inr (q8 u hu h2))
      · rw [if_neg k2]
        by_cases k3 : m = i
        · subst k3
          rw [hi] at hm
          cases hm
          refine ⟨D1, if_pos rfl, by rw [hD1], fun u hu h2 => ?_, by rw [hD1], fun _ => by rw [hD1]⟩
          rw [hD1]
          refine (remM_mem hD.srt).2 ⟨hu, fun h3 => h2 ?_⟩
          have h4 := lookM_of hD.srt (x := u.1) (n := u.2) hu
          rw [h3, hx] at h4
          exact h4.symm
        · rw [if_neg k3]
          exact ⟨M, hm, rfl, fun _ hu _ => hu, rfl, fun _ => rfl⟩
  have hsub : ∀ (m : Nat) M', F[m]? = some (some M') → ∃ M, f[m]? = some (some M) ∧ M'.kind = M.kind ∧ M'.links = M.links ∧ M'.holds = M.holds ∧ M'.data = M.data ∧ Sorted (nms M'.ents) ∧ (∀ u ∈ M'.ents, u ∈ M.ents ∨ (m = e ∧ u = (y, j + 1))) ∧ (m ≠ j → M'.parent = M.parent) ∧ (m = j → M'.parent = e + 1) := fun m M' hm => by
    rw [hget] at hm
    by_cases k : m = j
    · subst k
      rw [if_pos rfl] at hm
      cases hm
      exact ⟨J, hj, rfl, rfl, rfl, rfl, hJk.srt, fun u hu => .inl hu, fun k => absurd rfl k, fun _ => rfl⟩
    · rw [if_neg k] at hm
      by_cases k2 : m = e
      · subst k2
        rw [if_pos rfl] at hm
        cases hm
        refine ⟨E, hE, by rw [hE2]; exact q1, by rw [hE2]; exact q3, by rw [hE2]; exact q4, by rw [hE2]; exact q5, ?_, fun u hu => ?_, fun _ => by rw [hE2]; exact q6, fun k4 => absurd k4 k⟩
        · rw [hE2]
          refine addM_sorted q9 ?_ _
          cases hh : has (nms E1.ents) y with
          | false => rfl
          | true =>
            obtain ⟨z, hz, h2, _⟩ := lookM_yes hh
            have h3 := q7 z (List.mem_of_getElem? hz)
            have h4 := lookM_of hEk.srt (x := z.1) (n := z.2) h3
            rw [h2, hy] at h4
            have := (hEk.live z h3).1
            omega
        · rw [hE2] at hu
          rcases addM_mem.1 hu with h2 | h2
          · exact .inr ⟨rfl, h2⟩
          · exact .inl (q7 u h2)
      · rw [if_neg k2] at hm
        by_cases k3 : m = i
        · subst k3
          rw [if_pos rfl] at hm
          cases hm
          refine ⟨D, hi, by rw [hD1], by rw [hD1], by rw [hD1], by rw [hD1], by rw [hD1]; exact remM_sorted hD.srt x, fun u hu => ?_, fun _ => by rw [hD1], fun k4 => absurd k4 k⟩
          rw [hD1] at hu
          exact .inl ((remM_mem hD.srt).1 hu).1
        · rw [if_neg k3] at hm
          exact ⟨M', hm, rfl, rfl, rfl, rfl, (h.ino m M' hm).srt, fun u hu => .inl hu, fun _ => rfl, fun k4 => absurd k4 k⟩
  have hjF : ∃ J', F[j]? = some (some J') ∧ J'.parent = e + 1 := ⟨_, by rw [hget, if_pos rfl], rfl⟩
  have heF : ∃ E', F[e]? = some (some E') ∧ (y, j + 1) ∈ E'.ents := ⟨E2, by rw [hget, if_neg (Ne.symm hje), if_pos rfl], by rw [hE2]; exact addM_mem.2 (.inl rfl)⟩
  have hdj : J.isDir = true → ∃ d, Deep F d (j + 1) := fun k => by
    obtain ⟨d, hA⟩ := hav k
    have h1 : Deep F d (e + 1) := av_deep (fun _ => True) (fun n M _ _ h2 hn => by
      obtain ⟨m, rfl, hm⟩ := nat_node hn
      obtain ⟨M', k1, _, _, _, k2⟩ := hsim m M hm
      exact ⟨⟨M', node_nat k1, k2 (by omega)⟩, trivial⟩) hA trivial
    obtain ⟨J', hJ', hp⟩ := hjF
    exact ⟨d + 1, .up d _ J' (by omega) (node_nat hJ') (by rw [hp]; exact h1)⟩
  have hdeep : ∀ d n, Deep f d n → LD f n → ∃ d', Deep F d' n := fun d n hdp => by
    induction hdp with
    | root => exact fun _ => ⟨0, .root⟩
    | up d n I h1 hn _ ih =>
      intro hq
      by_cases k : n = j + 1
      · subst k
        obtain ⟨m, M, hm, hM, hMd, _⟩ := hq
        obtain rfl : m = j := by omega
        rw [hj] at hM
        cases hM
        exact hdj hMd
      · obtain ⟨d', h3⟩ := ih (h.ldUp hq h1 hn).1
        obtain ⟨m, rfl, hm⟩ := nat_node hn
        obtain ⟨M', k1, _, _, _, k2⟩ := hsim m I hm
        exact ⟨d' + 1, .up d' _ M' h1 (node_nat k1) (by rw [k2 (by omega)]; exact h3)⟩
  refine ⟨by rw [hlen]; exact h.len, ?_, ?_, ?_, fun m M' hm => ?_⟩
  · obtain ⟨R, hR, k1, k2, k3⟩ := h.root
    obtain ⟨R', hR', r1, _, r3, r4⟩ := hsim 0 R hR
    refine ⟨R', hR', ?_, by rw [r3]; exact k2, by rw [r4 (by omega)]; exact k3⟩
    unfold Ino.isDir at k1 ⊢
    rw [r1]
    exact k1
  · have h8 : sumF (fun I => I.data.length) F + D.data.length + E1.data.length + J.data.length = sumF (fun I => I.data.length) f + D1.data.length + E2.data.length + J.data.length := hsum _
    have h9 := h.bytes
    rw [bytesM_sum] at h9 ⊢
    rw [hD1, hE2] at h8
    dsimp only at h8
    omega
  · have h8 : sumF (fun I => I.ents.length) F + D.ents.length + E1.ents.length + J.ents.length = sumF (fun I => I.ents.length) f + D1.ents.length + E2.ents.length + J.ents.length := hsum _
    have h9 := h.tot
    have h10 := remM_len (l := D.ents) (x := x) (by omega)
    rw [hD1, hE2] at h8
    simp only [addM_len] at h8
    omega
  · obtain ⟨M, hM, r1, r2, r3, r4, r5, r6, r7, r8⟩ := hsub m M' hm
    have q := h.ino m M hM
    have hdd : M'.isDir = M.isDir := by unfold Ino.isDir; rw [r1]
    have hmE : m = e → M = E := fun k => by
      subst k
      rw [hE] at hM
      cases hM
      rfl
    refine ⟨r5, fun u hu => ?_, fun u hu => ?_, by rw [r1]; exact q.kind, fun k => ?_, fun k => ?_, by rw [hdd, r2]; exact q.one, fun k k2 => ?_, fun k k2 k3 => ?_, by rw [hcnt, r2]; exact q.cnt, by rw [r2]; exact q.links, by rw [r3]; exact q.holds, fun k k2 => ?_⟩
    · rcases r6 u hu with h1 | ⟨_, rfl⟩
      · obtain ⟨h2, K, hK⟩ := q.live u h1
        obtain ⟨K', hK', _⟩ := hsim _ K hK
        exact ⟨h2, K', hK'⟩
      · obtain ⟨J', hJ', _⟩ := hjF
        exact ⟨by dsimp only; omega, J', hJ'⟩
    · rcases r6 u hu with h1 | ⟨_, rfl⟩
      · exact q.name u h1
      · exact hn
    · rw [hdd] at k
      refine List.eq_nil_iff_forall_not_mem.2 fun u hu => ?_
      rcases r6 u hu with h1 | ⟨h1, _⟩
      · rw [q.file k] at h1
        cases h1
      · rw [hmE h1, hd] at k
        cases k
    · rw [hdd] at k
      rw [r4]
      exact q.dat k
    · rw [hdd] at k
      rw [r2] at k2
      refine List.eq_nil_iff_forall_not_mem.2 fun u hu => ?_
      rcases r6 u hu with h1 | ⟨h1, _⟩
      · rw [q.gone k k2] at h1
        cases h1
      · rw [hmE h1] at k2
        omega
    · rw [hdd] at k
      rw [r2] at k2
      by_cases k4 : m = j
      · subst k4
        obtain ⟨E', hE', hy'⟩ := heF
        exact ⟨e, E', y, r8 rfl, hE', hy'⟩
      · obtain ⟨m', P, z, hp, hP, hz⟩ := q.up k k2 k3
        obtain ⟨P', hP', _, k5, _⟩ := hsim _ P hP
        exact ⟨m', P', z, by rw [r7 k4]; exact hp, hP', k5 _ hz (by dsimp only; omega)⟩
    · rw [hdd] at k
      rw [r2] at k2
      obtain ⟨d, h10⟩ := q.deep k k2
      exact hdeep _ _ h10 ⟨m, M, rfl, hM, k, k2⟩
end
end Go.Proofs.YtmilagppbepnbaaGreat
/- What holds along all calls is kept by each call. No condition. -/
namespace Go.Proofs.YtmilagppbepnbaaGreat
open Go.RowKit
set_option linter.unusedVariables false
set_option linter.unusedSimpArgs false
theorem piecesGo_no : ∀ (l acc : List UInt8), ¬ 47 ∈ acc → ∀ p ∈ piecesGo acc l, ¬ 47 ∈ p
  | [], acc, h, p, hp => by
    unfold piecesGo at hp
    split at hp
    · cases hp
    · obtain rfl := List.mem_singleton.1 hp
      exact h
  | b :: l, acc, h, p, hp => by
    unfold piecesGo at hp
    split at hp
    · split at hp
      · exact piecesGo_no l [] (by simp) p hp
      · rcases List.mem_cons.1 hp with rfl | hp
        · exact h
        · exact piecesGo_no l [] (by simp) p hp
    · rename_i hb
      refine piecesGo_no l (acc ++ [b]) (fun hm => ?_) p hp
      rcases List.mem_append.1 hm with hm | hm
      · exact h hm
      · exact hb (List.mem_singleton.1 hm).symm
theorem pieces_no {s : ByteArray} {p : ByteArray} (hp : p ∈ pieces s) : ¬ 47 ∈ p.data.toList := by
  unfold pieces at hp
  obtain ⟨l, hl, rfl⟩ := List.mem_map.1 hp
  exact piecesGo_no _ _ (by simp) l hl
theorem aheads_in (f : Fs) : ∀ (l : List ByteArray) (n : Int) (last : ByteArray), (aheadsM f n last l).2.2 = 0 → (aheadsM f n last l).2.1 = last ∨ (aheadsM f n last l).2.1 ∈ l
  | [], n, last, _ => .inl rfl
  | p :: l, n, last, h => by
    unfold aheadsM at h ⊢
    split at h
    · rename_i h1
      rw [if_pos h1]
      rcases aheads_in f l n p h with h2 | h2
      · exact .inr (by rw [h2]; exact List.mem_cons_self ..)
      · exact .inr (List.mem_cons_of_mem _ h2)
    · rename_i h1
      rw [if_neg h1]
      split at h
      · rename_i h2
        exact absurd h h2
      · rename_i h2
        rw [if_neg h2]
        rcases aheads_in f l _ p h with h3 | h3
        · exact .inr (by rw [h3]; exact List.mem_cons_self ..)
        · exact .inr (List.mem_cons_of_mem _ h3)
theorem ahead_name {f : Fs} {dir : Int} {s : ByteArray} (h : (aheadM f dir s).2.2 = 0) : nameOK (aheadM f dir s).2.1 := by
  obtain ⟨_, _, _, _, h1, h2, h3, h4⟩ := ahead_live h
  refine ⟨by omega, h4, h2, h3, ?_⟩
  have e : (aheadM f dir s).2.1 = (aheadsM f (beginM dir s).1 ⟨#[]⟩ (pieces s)).2.1 ∧ (aheadsM f (beginM dir s).1 ⟨#[]⟩ (pieces s)).2.2 = 0 := by
    unfold aheadM at h ⊢
    split at h
    · contradiction
    · rename_i h0
      rw [if_neg h0]
      unfold lastM at h ⊢
      split at h
      · contradiction
      · rename_i h5
        rw [if_neg h5]
        split at h
        · contradiction
        · rename_i h6
          rw [if_neg h6]
          split at h
          · cases h
          · rename_i h7
            rw [if_neg h7]
            split at h
            · cases h
            · rename_i h8
              rw [if_neg h8]
              exact ⟨rfl, by omega⟩
  rw [e.1] at h1 ⊢
  rcases aheads_in f _ _ _ e.2 with h5 | h5
  · rw [h5] at h1
    exact absurd rfl h1
  · exact pieces_no h5
theorem mayAdd_ok {f : Fs} {n : Int} {x : ByteArray} {D : Ino} (hn : node f n = some D) (h : mayAddM f n x = 0) : lookM D.ents x = 0 ∧ D.links ≠ 0 ∧ D.may 2 = true := by
  unfold mayAddM at h
  rw [hn] at h
  dsimp only at h
  split at h
  · cases h
  · rename_i h1
    split at h
    · cases h
    · rename_i h2
      split at h
      · rename_i h3
        exact ⟨by omega, h2, h3⟩
      · cases h
section
variable {c : Nat} {f : Fs}
theorem WF.freed (h : WF c f) {i : Nat} {I : Ino} (hi : f[i]? = some (some I)) (hl : I.links = 0) : WF c (f.set i none) := by
  have hil := (List.getElem?_eq_some_iff.1 hi).1
  have k := h.ino i I hi
  have hI : I.ents = [] := by
    cases hd : I.isDir with
    | true => exact k.gone hd hl
    | false => exact k.file hd
  have hget : ∀ m, (f.set i none)[m]? = if m = i then some none else f[m]? := fun m => by
    by_cases e : m = i
    · rw [if_pos e, e, List.getElem?_set_self hil]
    · rw [if_neg e, List.getElem?_set_ne (fun h => e h.symm)]
  have hsum : ∀ g : Ino → Nat, sumF g (f.set i none) + g I = sumF g f := fun g => by
    have := sumF_set g f i _ none hi
    simpa [optF] using this
  have hcnt : ∀ n, cntF (f.set i none) n = cntF f n := fun n => by
    have h8 : sumF (fun I => cntE I.ents n) (f.set i none) + cntE I.ents n = sumF (fun I => cntE I.ents n) f := hsum _
    rw [hI] at h8
    unfold cntF
    simpa [cntE] using h8
  have hno : ∀ (m : Nat) M, f[m]? = some (some M) → ∀ e ∈ M.ents, e.2 ≠ i + 1 := fun m M hm e he e1 => by
    have := cnt_mem hm he
    rw [e1] at this
    have := k.cnt
    omega
  have hdeep : ∀ d n, Deep f d n → LD f n → Deep (f.set i none) d n := fun d n hd hq => deep_on (fun n => LD f n) (fun n M hq h1 hn => by
    obtain ⟨m, rfl, hm⟩ := nat_node hn
    have hmi : m ≠ i := fun e => by
      subst e
      obtain ⟨m', M', e1, e2, _, e3⟩ := hq
      obtain rfl : m' = m := by omega
      rw [hi] at e2
      cases e2
      omega
    refine ⟨⟨M, node_nat (by rw [hget, if_neg hmi]; exact hm), rfl⟩, (h.ldUp hq h1 hn).1⟩) hd hq
  refine ⟨by rw [List.length_set]; exact h.len, ?_, ?_, ?_, fun m M hm => ?_⟩
  · obtain ⟨R, hR, k1, k2, k3⟩ := h.root
    refine ⟨R, ?_, k1, k2, k3⟩
    rw [hget, if_neg (fun e => ?_)]
    · exact hR
    · subst e
      rw [hi] at hR
      cases hR
      omega
  · have h8 := hsum (fun I => I.data.length)
    have h9 := h.bytes
    rw [bytesM_sum] at h9 ⊢
    omega
  · have h8 := hsum (fun I => I.ents.length)
    have h9 := h.tot
    omega
  · rw [hget] at hm
    by_cases e : m = i
    · rw [if_pos e] at hm
      cases hm
    · rw [if_neg e] at hm
      have q := h.ino m M hm
      refine ⟨q.srt, fun u hu => ?_, q.name, q.kind, q.file, q.dat, q.one, q.gone, fun q1 q2 q3 => ?_, by rw [hcnt]; exact q.cnt, q.links, q.holds, fun q1 q2 => ?_⟩
      · obtain ⟨h8, J, hJ⟩ := q.live u hu
        have := hno m M hm u hu
        exact ⟨h8, J, by rw [hget, if_neg (by omega)]; exact hJ⟩
      · obtain ⟨m', P, y, hp, hP, hy⟩ := q.up q1 q2 q3
        refine ⟨m', P, y, hp, ?_, hy⟩
        rw [hget, if_neg (fun e => ?_)]
        · exact hP
        · subst e
          rw [hi] at hP
          cases hP
          rw [hI] at hy
          cases hy
      · obtain ⟨d, h10⟩ := q.deep q1 q2
        exact ⟨d, hdeep _ _ h10 ⟨m, M, rfl, hm, q1, q2⟩⟩
theorem set_get {i : Nat} {I I' : Ino} (hi : f[i]? = some (some I)) : (f.set i (some I'))[i]? = some (some I') := List.getElem?_set_self (List.getElem?_eq_some_iff.1 hi).1
theorem set_bytes {i : Nat} {I I' : Ino} (hi : f[i]? = some (some I)) : bytesM (f.set i (some I')) + I.data.length = bytesM f + I'.data.length := by
  have := sumF_set (fun I => I.data.length) f i _ (some I') hi
  rw [bytesM_sum, bytesM_sum]
  exact this
theorem make_wf (h : WF c f) {i : Nat} {D I : Ino} (hi : f[i]? = some (some D)) {x : ByteArray} (hd : D.isDir = true) (hn : nameOK x) (h1 : I.kind = 1 ∨ I.kind = 2) (h2 : I.ents = []) (h3 : I.data = []) (h5 : I.holds = 0) (h6 : I.isDir = true → I.parent = i + 1) : WF (c + 1) (makeM f (i + 1) x I).2.2 := by
  unfold makeM
  by_cases e1 : mayAddM f ((i + 1 : Nat) : Int) x ≠ 0
  · rw [if_pos e1]
    exact h.mono (Nat.le_succ _)
  · rw [if_neg e1]
    by_cases e2 : 100 ≤ countM f
    · rw [if_pos e2]
      exact h.mono (Nat.le_succ _)
    · rw [if_neg e2]
      obtain ⟨k1, k2, _⟩ := mayAdd_ok (node_nat hi) (Classical.not_not.1 e1)
      exact h.made (I := { I with links := 1 }) hi hd k2 k1 hn e2 h1 h2 h3 rfl h5 h6
theorem create_wf (h : WF c f) (dir : Int) (s : ByteArray) (m : Int) : WF (c + 1) (CreateM f dir s m).2.2 := by
  unfold CreateM
  split
  · exact h.mono (Nat.le_succ _)
  · split
    · exact h.mono (Nat.le_succ _)
    · rename_i h1
      split
      · exact h.mono (Nat.le_succ _)
      · obtain ⟨D, hD, hd, _⟩ := ahead_live (f := f) (dir := dir) (s := s) (by omega)
        obtain ⟨i, e, _, hi⟩ := node_some hD
        rw [e, show ((i : Int) + 1).toNat = i + 1 by omega]
        exact make_wf h hi hd (ahead_name (by omega)) (.inl rfl) rfl rfl rfl (fun k => by cases k)
theorem mkdir_wf (h : WF c f) (dir : Int) (s : ByteArray) (m : Int) : WF (c + 1) (MkdirM f dir s m).2.2 := by
  unfold MkdirM
  split
  · exact h.mono (Nat.le_succ _)
  · split
    · exact h.mono (Nat.le_succ _)
    · rename_i h1
      obtain ⟨D, hD, hd, _⟩ := ahead_live (f := f) (dir := dir) (s := s) (by omega)
      obtain ⟨i, e, _, hi⟩ := node_some hD
      rw [e, show ((i : Int) + 1).toNat = i + 1 by omega]
      exact make_wf h hi hd (ahead_name (by omega)) (.inr rfl) rfl rfl rfl (fun _ => rfl)
theorem unlink_wf (h : WF c f) (dir : Int) (s : ByteArray) : WF (c + 1) (UnlinkM f dir s).2 := by
  have hm := h.mono (Nat.le_succ c)
  by_cases h0 : (namedM f dir s).2.2.2 = 0
  · obtain ⟨i, D, j, J, x, he, hi, hdd, hj, hx⟩ := named_ok h.closed h0
    unfold UnlinkM
    rw [he]
    dsimp only
    rw [if_neg (fun h => h rfl), show ((j + 1 : Nat) : Int) = (j : Int) + 1 by omega, node_at hj, node_at hi, show ((i : Int) + 1).toNat = i + 1 by omega]
    dsimp only
    split
    · exact hm
    · split
      · exact hm
      · rename_i hJ
        split
        · have hJ' := (h.ino j J hj).file (by simpa using hJ)
          obtain ⟨o, u⟩ := h.unlinked hi hj hx hJ'
          exact (h.unl hi hj hx hJ' u).1.mono (Nat.le_succ c)
        · exact hm
  · unfold UnlinkM
    rw [if_pos h0]
    exact hm
theorem rmdir_wf (h : WF c f) (dir : Int) (s : ByteArray) : WF (c + 1) (RmdirM f dir s).2 := by
  have hm := h.mono (Nat.le_succ c)
  by_cases h0 : (namedM f dir s).2.2.2 = 0
  · obtain ⟨i, D, j, J, x, he, hi, hdd, hj, hx⟩ := named_ok h.closed h0
    unfold RmdirM
    rw [he]
    dsimp only
    rw [if_neg (fun h => h rfl), show ((j + 1 : Nat) : Int) = (j : Int) + 1 by omega, node_at hj, node_at hi, show ((i : Int) + 1).toNat = i + 1 by omega]
    dsimp only
    split
    · split
      · exact hm
      · rename_i hJ
        split
        · have hJ' : J.ents = [] := List.eq_nil_of_length_eq_zero (by omega)
          obtain ⟨o, u⟩ := h.unlinked hi hj hx hJ'
          exact (h.unl hi hj hx hJ' u).1.mono (Nat.le_succ c)
        · exact hm
    · exact hm
  · unfold RmdirM
    rw [if_pos h0]
    exact hm
theorem link_wf (h : WF c f) (dir : Int) (s t : ByteArray) : WF (c + 1) (LinkM f dir s t).2 := by
  have hm := h.mono (Nat.le_succ c)
  unfold LinkM
  split
  · exact hm
  · rename_i h1
    split
    · exact hm
    · rename_i h2
      split
      · exact hm
      · rename_i h3
        split
        · exact hm
        · split
          · exact hm
          · rename_i h5
            obtain ⟨J, hJ⟩ := Option.isSome_iff_exists.1 (walk_live h.closed (dir := dir) (s := s) (by omega))
            obtain ⟨j, ej, _, hj⟩ := node_some hJ
            obtain ⟨D, hD, hd, _⟩ := ahead_live (f := f) (dir := dir) (s := t) (by omega)
            obtain ⟨i, ei, _, hi⟩ := node_some hD
            obtain ⟨k1, k2, _⟩ := mayAdd_ok hD (Classical.not_not.1 h5)
            have hJd : J.isDir = false := by
              unfold isDir at h2
              rw [hJ] at h2
              simpa using h2
            rw [ej, ei, show ((i : Int) + 1).toNat = i + 1 by omega, show ((j : Int) + 1).toNat = j + 1 by omega]
            refine h.linkd hi hj hd hJd k2 k1 (ahead_name (by omega)) (fun e => ?_)
            subst e
            obtain ⟨R, hR, r1, _⟩ := h.root
            rw [hR] at hj
            cases hj
            rw [r1] at hJd
            cases hJd
theorem chmod_wf (h : WF c f) (n m : Int) : WF (c + 1) (ChmodM f n m).2 := by
  unfold ChmodM
  cases hn : node f n with
  | none => exact h.mono (Nat.le_succ c)
  | some I =>
    obtain ⟨i, rfl, _, hi⟩ := node_some hn
    dsimp only
    rw [modN_at hi]
    have := h.bytes
    have h2 := set_bytes (I' := { I with mode := modeM m }) hi
    dsimp only at h2
    exact h.touch hi rfl rfl rfl rfl (fun _ => rfl) (by omega) (by have := (h.ino i I hi).holds; dsimp only; omega)
theorem hold_wf (h : WF c f) (n : Int) : WF (c + 1) (HoldM f n).2 := by
  unfold HoldM
  cases hn : node f n with
  | none => exact h.mono (Nat.le_succ c)
  | some I =>
    obtain ⟨i, rfl, _, hi⟩ := node_some hn
    dsimp only
    rw [modN_at hi]
    have := h.bytes
    have h2 := set_bytes (I' := { I with holds := I.holds + 1 }) hi
    dsimp only at h2
    exact h.touch hi rfl rfl rfl rfl (fun _ => rfl) (by omega) (by have := (h.ino i I hi).holds; dsimp only; omega)
theorem trunc_wf (h : WF c f) (n k : Int) : WF (c + 1) (TruncM f n k).2 := by
  unfold TruncM
  cases hn : node f n with
  | none => exact h.mono (Nat.le_succ c)
  | some I =>
    obtain ⟨i, rfl, _, hi⟩ := node_some hn
    dsimp only
    split
    · exact h.mono (Nat.le_succ c)
    · rename_i hd
      split
      · exact h.mono (Nat.le_succ c)
      · split
        · exact h.mono (Nat.le_succ c)
        · rename_i h4
          have h5 : roomM f I k.toNat = true := by
            cases h6 : roomM f I k.toNat with
            | true => rfl
            | false => exact absurd (.inr h6) h4
          unfold roomM at h5
          have h6 := of_decide_eq_true h5
          rw [modN_at hi]
          have h2 := set_bytes (I' := { I with data := resM I.data k.toNat }) hi
          dsimp only at h2
          rw [resM_len] at h2
          exact h.touch hi rfl rfl rfl rfl (fun k => absurd k hd) (by omega) (by have := (h.ino i I hi).holds; dsimp only; omega)
theorem putL_len {l s : List UInt8} {a : Nat} (h : a + s.length ≤ l.length) : (putL l a s).length = l.length := by
  unfold putL
  simp
  omega
theorem write_wf (h : WF c f) (n a : Int) (s : ByteArray) : WF (c + 1) (WriteM f n a s).2.2 := by
  unfold WriteM
  cases hn : node f n with
  | none => exact h.mono (Nat.le_succ c)
  | some I =>
    obtain ⟨i, rfl, _, hi⟩ := node_some hn
    dsimp only
    split
    · exact h.mono (Nat.le_succ c)
    · rename_i hd
      split
      · exact h.mono (Nat.le_succ c)
      · split
        · exact h.mono (Nat.le_succ c)
        · rename_i h4
          split
          · exact h.mono (Nat.le_succ c)
          · rename_i h0
            have h5 : roomM f I (sizM I a.toNat s) = true := by
              cases h6 : roomM f I (sizM I a.toNat s) with
              | true => rfl
              | false => exact absurd (.inr h6) h4
            unfold roomM at h5
            have h6 := of_decide_eq_true h5
            rw [modN_at hi]
            have h2 := set_bytes (I' := { I with data := putL (resM I.data (sizM I a.toNat s)) a.toNat s.data.toList }) hi
            dsimp only at h2
            have h7 : a.toNat + s.data.toList.length ≤ (resM I.data (sizM I a.toNat s)).length := by
              rw [resM_len]
              unfold sizM
              rw [if_neg h0]
              have h8 : s.data.toList.length = s.size := by rw [Array.length_toList]; rfl
              have h9 : ¬ 65536 < a := fun h => h4 (.inl h)
              omega
            rw [putL_len h7, resM_len] at h2
            exact h.touch hi rfl rfl rfl rfl (fun k => absurd k hd) (by omega) (by have := (h.ino i I hi).holds; dsimp only; omega)
end
end Go.Proofs.YtmilagppbepnbaaGreat
/- Rename as a whole. Condition: the tree lies as stated, and what holds along all calls holds. -/
namespace Go.Proofs.YtmilagppbepnbaaGreat
open Go.RowKit Go.Shelf Go.PlainAid
set_option linter.unusedVariables false
set_option linter.unusedSimpArgs false
/-- What is replaced is empty. -/
theorem repl_empty {f : Fs} {d a jo t : Nat} {O : Ino} (hO : f[jo]? = some (some O)) (h : mayReplaceM f d a (jo + 1) t = 0) : O.ents = [] ∧ (isDir f (a : Int) = true → holdsM f d a t = false) := by
  unfold mayReplaceM at h
  rw [if_neg (by omega)] at h
  have hfu : fullM f (jo + 1) = decide (0 < O.ents.length) := by unfold fullM; rw [node_nat hO]
  rw [hfu] at h
  have hE : ¬ 0 < O.ents.length → O.ents = [] := fun h => List.eq_nil_of_length_eq_zero (by omega)
  split at h
  · rename_i h1
    split at h
    · split at h
      · cases h
      · rename_i h3
        split at h
        · cases h
        · rename_i h4
          exact ⟨hE (by simpa using h4), fun _ => by simpa using h3⟩
    · cases h
  · rename_i h1
    split at h
    · cases h
    · split at h
      · cases h
      · rename_i h4
        exact ⟨hE (by simpa using h4), fun h5 => absurd h5 h1⟩
theorem repl_new {f : Fs} {d a t : Nat} (h : mayReplaceM f d a 0 t = 0) : isDir f (a : Int) = true → holdsM f d a t = false := by
  unfold mayReplaceM at h
  rw [if_pos rfl] at h
  intro h1
  rw [if_pos h1] at h
  split at h
  · cases h
  · rename_i h2
    simpa using h2
theorem isDir_nat {f : Fs} {j : Nat} {J : Ino} (hj : f[j]? = some (some J)) : isDir f ((j + 1 : Nat) : Int) = J.isDir := by
  unfold isDir
  rw [node_nat hj]
section
variable {w : World} {B : Nat → Nat → Prop} {p : Nat} {c : Nat} {f : Fs} {sv : Value} {ps : List (Option Nat)}
theorem WF.dep (h : WF c f) {e : Nat} {E : Ino} (hE : f[e]? = some (some E)) (hd : E.isDir = true) (hl : E.links ≠ 0) : Deep f (dep f (e + 1)) (e + 1) := by
  obtain ⟨d, h1⟩ := (h.ino e E hE).deep hd (by have := (h.ino e E hE).one hd; omega)
  rw [dep_eq h1]
  exact h1
theorem rename_wf (hw : WF c f) (dir : Int) (s t : ByteArray) : WF (c + 1) (RenameM f dir s t).2 := by
  have hm := hw.mono (Nat.le_succ c)
  have hcl := hw.closed
  by_cases h0 : (namedM f dir s).2.2.2 = 0
  · obtain ⟨i, D, j, J, x, he, hi, hdd, hj, hx⟩ := named_ok hcl h0
    have e1 : RenameM f dir s t = ren1 f (i + 1) D x (j + 1) J (slashed s) (slashed t) (aheadM f dir t) := by
      unfold RenameM
      rw [he]
      dsimp only
      rw [if_neg (fun h => h rfl), show ((j + 1 : Nat) : Int) = (j : Int) + 1 by omega, node_at hj, node_at hi, show ((i : Int) + 1).toNat = i + 1 by omega]
    rw [e1]
    unfold ren1
    split
    · exact hm
    · by_cases h2 : (aheadM f dir t).2.2 ≠ 0
      · rw [if_pos h2]
        exact hm
      · rw [if_neg h2]
        have h2' : (aheadM f dir t).2.2 = 0 := by omega
        obtain ⟨E, hEn, hEd, _⟩ := ahead_live h2'
        have hyn := ahead_name h2'
        obtain ⟨e, ee, _, hE⟩ := node_some hEn
        obtain ⟨y, hy⟩ : ∃ y, (aheadM f dir t).2.1 = y := ⟨_, rfl⟩
        have ha : aheadM f dir t = ((e : Int) + 1, y, 0) := by
          rw [← ee, ← hy, ← h2']
        rw [hy] at hyn
        rw [ha]
        dsimp only
        rw [node_at hE, show ((e : Int) + 1).toNat = e + 1 by omega]
        dsimp only
        unfold ren2
        split
        · exact hm
        · by_cases h4 : E.links = 0
          · rw [if_pos h4]
            exact hm
          · rw [if_neg h4]
            split
            · unfold ren3
              by_cases h7 : j + 1 = lookM E.ents y
              · rw [if_pos h7]
                exact hm
              · rw [if_neg h7]
                by_cases h8 : mayReplaceM f (dep f (e + 1)) (j + 1) (lookM E.ents y) (e + 1) ≠ 0
                · rw [if_pos h8]
                  exact hm
                · rw [if_neg h8]
                  have h8' : mayReplaceM f (dep f (e + 1)) (j + 1) (lookM E.ents y) (e + 1) = 0 := by omega
                  have hdp := hw.dep hE hEd h4
                  dsimp only
                  by_cases h9 : lookM E.ents y = 0
                  · rw [if_pos h9]
                    rw [h9] at h8'
                    exact (hw.renm hi hj hE hx hEd h4 h9 hyn (fun h10 => ⟨_, av_of hdp (repl_new h8' (by rw [isDir_nat hj]; exact h10))⟩)).mono (Nat.le_succ c)
                  · rw [if_neg h9]
                    obtain ⟨jo, hjo⟩ : ∃ jo, lookM E.ents y = jo + 1 := ⟨lookM E.ents y - 1, by omega⟩
                    have hym := lookM_mem h9
                    have hEk := hw.ino e E hE
                    have hDk := hw.ino i D hi
                    obtain ⟨_, O, hO⟩ := hEk.live _ hym
                    dsimp only at hO
                    rw [hjo, Nat.add_sub_cancel] at hO
                    obtain ⟨hem, hho⟩ := repl_empty hO (by rw [← hjo]; exact h8')
                    have hxm := lookM_mem (l := D.ents) (x := x) (by omega)
                    rw [hx] at hxm
                    have n1 : i ≠ jo := fun e => by
                      subst e
                      rw [hi] at hO
                      cases hO
                      rw [hem] at hxm
                      cases hxm
                    have n2 : e ≠ jo := fun e => by
                      subst e
                      rw [hE] at hO
                      cases hO
                      rw [hem] at hym
                      cases hym
                    have n3 : j ≠ jo := by omega
                    have hEl : E.links = 1 := by have := hEk.one hEd; omega
                    have hav : J.isDir = true → Av f (j + 1) (dep f (e + 1)) (e + 1) := fun h10 => av_of hdp (hho (by rw [isDir_nat hj]; exact h10))
                    obtain ⟨o, u⟩ := hw.unlinked hE hO hjo hem
                    have hw1 := (hw.unl hE hO hjo hem u).1
                    have hgE : (unlinkM f (e + 1) y)[e]? = some (some { E with ents := remM E.ents y }) := by rw [u.get, if_pos rfl]
                    obtain ⟨D1, hgD, hlD⟩ : ∃ D1, (unlinkM f (e + 1) y)[i]? = some (some D1) ∧ lookM D1.ents x = j + 1 := by
                      rw [u.get]
                      by_cases k : i = e
                      · subst k
                        rw [hi] at hE
                        cases hE
                        refine ⟨_, if_pos rfl, lookM_of (remM_sorted hDk.srt y) ((remM_mem hDk.srt).2 ⟨hxm, fun h11 => ?_⟩)⟩
                        dsimp only at h11
                        rw [← h11, hx] at hjo
                        omega
                      · rw [if_neg k, if_neg n1]
                        exact ⟨D, hi, hx⟩
                    obtain ⟨J1, hgJ, hJd⟩ : ∃ J1, (unlinkM f (e + 1) y)[j]? = some (some J1) ∧ J1.isDir = J.isDir := by
                      rw [u.get]
                      by_cases k : j = e
                      · subst k
                        rw [hj] at hE
                        cases hE
                        exact ⟨_, if_pos rfl, rfl⟩
                      · rw [if_neg k, if_neg n3]
                        exact ⟨J, hj, rfl⟩
                    have hly : lookM (remM E.ents y) y = 0 := by
                      rcases Nat.eq_zero_or_pos (lookM (remM E.ents y) y) with h11 | h11
                      · exact h11
                      · exact absurd rfl ((remM_mem hEk.srt).1 (lookM_mem (by omega : lookM (remM E.ents y) y ≠ 0))).2
                    refine (hw1.renm hgD hgJ hgE hlD hEd h4 hly hyn (fun h10 => ⟨_, av_on (fun n => LD f n ∧ n ≠ jo + 1) (fun n M hq k1 _ hn => ?_) (hav (by rw [← hJd]; exact h10)) ⟨⟨e, E, rfl, hE, hEd, hEl⟩, by omega⟩⟩)).mono (Nat.le_succ c)
                    obtain ⟨q1, m', P, z, q2, q3, q4⟩ := hw.ldUp hq.1 k1 hn
                    obtain ⟨m, rfl, hm2⟩ := nat_node hn
                    refine ⟨?_, q1, fun k => ?_⟩
                    · by_cases k2 : m = e
                      · subst k2
                        rw [hE] at hm2
                        cases hm2
                        exact ⟨_, node_nat hgE, rfl⟩
                      · exact ⟨M, node_nat (by rw [u.get, if_neg k2, if_neg (by have := hq.2; omega)]; exact hm2), rfl⟩
                    · obtain rfl : m' = jo := by omega
                      rw [hO] at q3
                      cases q3
                      rw [hem] at q4
                      cases q4
            · exact hm
  · have e1 : RenameM f dir s t = ((namedM f dir s).2.2.2, f) := by
      unfold RenameM
      rw [if_pos h0]
    rw [e1]
    exact hm
end
end Go.Proofs.YtmilagppbepnbaaGreat
/- Path. Condition: the tree lies as stated, and what holds along all calls holds. -/
namespace Go.Proofs.YtmilagppbepnbaaGreat
open Go.RowKit Go.Shelf Go.PlainAid
set_option linter.unusedVariables false
set_option linter.unusedSimpArgs false
attribute [local go_sem] Oper.semAt_some
theorem nodup_len : ∀ (N : Nat) (l : List Nat), l.Nodup → (∀ m ∈ l, m < N) → l.length ≤ N
  | 0, l, _, h => by
    cases l with
    | nil => exact Nat.le_refl _
    | cons a l => exact absurd (h a (List.mem_cons_self ..)) (Nat.not_lt_zero _)
  | N + 1, l, hn, h => by
    have h1 := nodup_len N (l.erase N) (hn.erase N) (fun m hm => by
      have h2 := (hn.mem_erase_iff).1 hm
      have h3 := h m h2.2
      have h4 := h2.1
      omega)
    have h2 := @List.length_erase _ _ _ N l
    split at h2 <;> omega
/-- The way up: numbers, each once. -/
theorem deep_chain {f : Fs} {d n : Nat} (h : Deep f d n) : ∃ l : List Nat, l.length = d ∧ l.Nodup ∧ ∀ m ∈ l, m ≤ f.length ∧ ∃ d', d' ≤ d ∧ 1 ≤ d' ∧ Deep f d' m := by
  induction h with
  | root => exact ⟨[], rfl, List.Pairwise.nil, fun m hm => (nomatch hm)⟩
  | up d n I h1 hn hd ih =>
    obtain ⟨l, h2, h3, h4⟩ := ih
    have hD : Deep f (d + 1) n := .up d n I h1 hn hd
    refine ⟨n :: l, by rw [List.length_cons, h2], List.nodup_cons.2 ⟨fun hm => ?_, h3⟩, fun m hm => ?_⟩
    · obtain ⟨_, d', h5, _, h6⟩ := h4 n hm
      have := h6.uniq hD
      omega
    · rcases List.mem_cons.1 hm with rfl | hm
      · obtain ⟨i, h5, h6, _⟩ := node_some hn
        exact ⟨by omega, d + 1, Nat.le_refl _, by omega, hD⟩
      · obtain ⟨h5, d', h6, h7, h8⟩ := h4 m hm
        exact ⟨h5, d', by omega, h7, h8⟩
theorem deep_le {f : Fs} {d n : Nat} (h : Deep f d n) : d ≤ f.length + 1 := by
  obtain ⟨l, h1, h2, h3⟩ := deep_chain h
  rw [← h1]
  exact nodup_len _ l h2 (fun m hm => by have := (h3 m hm).1; omega)
theorem nameM_mem : ∀ (l : Ents) (n : Nat), (nameM l n = ⟨#[]⟩ ∧ ∀ e ∈ l, e.2 ≠ n) ∨ (nameM l n, n) ∈ l
  | [], n => .inl ⟨rfl, fun e he => (nomatch he)⟩
  | e :: l, n => by
    unfold nameM
    by_cases h : e.2 = n
    · rw [if_pos h, ← h]
      exact .inr (List.mem_cons_self ..)
    · rw [if_neg h]
      rcases nameM_mem l n with ⟨h1, h2⟩ | h1
      · refine .inl ⟨h1, fun u hu => ?_⟩
        rcases List.mem_cons.1 hu with rfl | hu
        · exact h
        · exact h2 u hu
      · exact .inr (List.mem_cons_of_mem _ h1)
def entsAt (f : Fs) (n : Nat) : Ents := match node f (n : Int) with
  | none => []
  | some I => I.ents
def slT : ByteArray := ⟨#[47]⟩
/-- The names up to the root. -/
def upM (f : Fs) : Nat → Nat → ByteArray
  | 0, _ => ⟨#[]⟩
  | d + 1, n => match node f (n : Int) with
    | none => ⟨#[]⟩
    | some I => upM f d I.parent ++ (slT ++ nameM (entsAt f I.parent) n)
noncomputable def PathM (f : Fs) (n : Int) : ByteArray × Nat := match node f n with
  | none => (⟨#[]⟩, 9)
  | some I => if I.isDir = true then (if n = 1 then (slT, 0) else if I.links = 0 then (⟨#[]⟩, 2) else (upM f (dep f n.toNat) n.toNat, 0)) else (⟨#[]⟩, 20)
theorem up_some {f : Fs} {d n : Nat} {I : Ino} (hn : node f (n : Int) = some I) : upM f (d + 1) n = upM f d I.parent ++ (slT ++ nameM (entsAt f I.parent) n) := by
  rw [upM, hn]
theorem name_size {c : Nat} {f : Fs} (hw : WF c f) (m n : Nat) : (nameM (entsAt f m) n).size ≤ 32 := by
  unfold entsAt
  cases hn : node f (m : Int) with
  | none => exact of_decide_eq_true rfl
  | some P =>
    obtain ⟨i, rfl, hi⟩ := nat_node hn
    rcases nameM_mem P.ents n with ⟨h, _⟩ | h
    · dsimp only
      rw [h]
      exact Nat.zero_le _
    · exact ((hw.ino i P hi).name _ h).2.1
section
variable {w : World} {B : Nat → Nat → Prop} {p : Nat} {c : Nat} {f : Fs} {sv : Value} {ps : List (Option Nat)}
set_option maxHeartbeats 4000000 in
set_option maxRecDepth 100000 in
theorem path_any (h : FsAt w B p f sv ps) (hw : WF c f) (hc : c ≤ 5000) (k : Int) : Calls Tryz.prog 156 #[.pointer (some ⟨p, 0, none⟩), .int .i64 k] w fun e w' => e = .returned (.tuple #[.string (PathM f k).1, .int .i64 (PathM f k).2]) ∧ Below w.heap.size w w' := by
  have hf := hw.fine hc
  have hlen : f.length ≤ 100000 := by have := hf.1; omega
  cases hn : node f k with
  | none =>
    have hM : PathM f k = (⟨#[]⟩, 9) := by unfold PathM; rw [hn]
    have hc := Lib.hid (node_no h hn hlen)
    rw [hM]
    clear h hf hn hM hw
    go_enter Tryz.func156, Tryz.ntmps156
    go_wp2_with (go_at_call 58; refine hc.out.mono ?_; rintro e w' ⟨rfl, rfl⟩)
    go_ret2
    exact ⟨rfl, Below.refl _ _⟩
  | some I =>
    obtain ⟨i, q, rfl, hil, hi, hq, dv, ev, hA⟩ := node_where h hn
    have hnd := Lib.hid (node_yes h hq hlen)
    have hdi := Lib.hid (isDir_any hA)
    have hM : PathM f ((i : Int) + 1) = if I.isDir = true then (if ((i : Int) + 1) = 1 then (slT, 0) else if I.links = 0 then (⟨#[]⟩, 2) else (upM f (dep f (i + 1)) (i + 1), 0)) else (⟨#[]⟩, 20) := by
      unfold PathM
      rw [hn, show ((i : Int) + 1).toNat = i + 1 by omega]
    rw [hM]
    cases hd : I.isDir with
    | false =>
      rw [hd] at hdi
      rw [if_neg (by decide)]
      clear h hf hn hM hi hq hA hd hw
      go_enter Tryz.func156, Tryz.ntmps156
      go_wp2_with (first | (go_at_call 58; refine hnd.out.mono ?_; rintro e w' ⟨rfl, rfl⟩) | (go_at_call 132; refine hdi.out.mono ?_; rintro e w' ⟨rfl, rfl⟩))
      go_ret2
      exact ⟨rfl, Below.refl _ _⟩
    | true =>
      rw [hd] at hdi
      rw [if_pos rfl]
      by_cases hl0 : I.links = 0
      · have hi0 : i ≠ 0 := fun e => by
          subst e
          obtain ⟨R, hR, _, r2, _⟩ := hw.root
          rw [hR] at hi
          cases hi
          omega
        rw [if_neg (by omega), if_pos hl0]
        have c2 : w.cell? ⟨q, 2, none⟩ = some (.int .i64 I.links) := hA.blk.cell 2
        rw [hl0] at c2
        have x1 : (((i : Int) + 1) != 1) = true := bne_iff_ne.2 (by omega)
        clear h hf hn hM hi hq hA hd hl0 hw
        go_enter Tryz.func156, Tryz.ntmps156
        go_wp2_with (first | (go_at_call 58; refine hnd.out.mono ?_; rintro e w' ⟨rfl, rfl⟩) | (go_at_call 132; refine hdi.out.mono ?_; rintro e w' ⟨rfl, rfl⟩))
        go_loopw [1, 6, 7] (fun s1 s6 s7 wr => s1 = .int .i64 ((i : Int) + 1) ∧ s6 = .pointer (some ⟨q, 0, none⟩) ∧ s7 = .string ⟨#[]⟩ ∧ w' = wr) (fun _ _ _ _ => 0)
        case atStart => exact ⟨rfl, rfl, rfl, rfl⟩
        case round =>
          obtain ⟨rfl, rfl, rfl, rfl⟩ := hrel
          go_wp2
          go_ret2
          exact ⟨rfl, Below.refl _ _⟩
      · have hdp := hw.dep hi hd hl0
        obtain ⟨d, hde⟩ : ∃ d, dep f (i + 1) = d := ⟨_, rfl⟩
        rw [hde] at hdp ⊢
        have hd1 := deep_le hdp
        have hd2 := hw.len
        obtain ⟨T, hT⟩ : ∃ T, upM f d (i + 1) = T := ⟨_, rfl⟩
        have hld : LD f (i + 1) := ⟨i, I, rfl, hi, hd, by have := (hw.ino i I hi).one hd; omega⟩
        have hR : (if ((i : Int) + 1) = 1 then (slT, 0) else if I.links = 0 then (⟨#[]⟩, 2) else (upM f d (i + 1), 0)) = ((if d = 0 then slT else T), 0) := by
          rw [if_neg hl0, hT]
          by_cases h0 : i = 0
          · subst h0
            have := hdp.uniq Deep.root
            subst this
            rw [if_pos (by omega), if_pos rfl]
          · rw [if_neg (by omega), if_neg (fun e => ?_)]
            subst e
            cases hdp
            exact h0 rfl
        rw [hR]
        obtain ⟨V, hV⟩ : ∃ V, (if d = 0 then slT else T) = V := ⟨_, rfl⟩
        rw [hV]
        have hVH := Lib.hid hV
        have hH := Lib.hid h
        have hwH := Lib.hid hw
        have hfH := Lib.hid hf
        have hdH := Lib.hid hdp
        have hTH := Lib.hid hT
        have hldH := Lib.hid hld
        clear h hf hM hi hA hd hl0 hw hdp hT hld hR hde hV
        go_enter Tryz.func156, Tryz.ntmps156
        go_wp2_with (first | (go_at_call 58; refine hnd.out.mono ?_; rintro e w' ⟨rfl, rfl⟩) | (go_at_call 132; refine hdi.out.mono ?_; rintro e w' ⟨rfl, rfl⟩))
        go_loopw [1, 6, 7] (fun s1 s6 s7 wr => ∃ (k m qm : Nat) (pth : ByteArray), s1 = .int .i64 m ∧ s6 = .pointer (some ⟨qm, 0, none⟩) ∧ s7 = .string pth ∧ Hid (Below w'.heap.size w' wr) ∧ Hid (Deep f k m) ∧ Hid (LD f m) ∧ Hid (∃ j, m = j + 1 ∧ ps[j]? = some (some qm)) ∧ Hid (upM f k m ++ pth = T) ∧ pth.size + 33 * k ≤ 33 * d ∧ (d = 0 ↔ pth.size = 0 ∧ k = 0)) (fun s1 _ _ _ => dep f (intOf s1).toNat)
        case atStart => exact ⟨d, i + 1, q, ⟨#[]⟩, by go_num, rfl, rfl, Lib.hid (Below.refl _ _), hdH, hldH, Lib.hid ⟨i, rfl, hq⟩, Lib.hid (by rw [hTH.out]; exact ByteArray.append_empty), by show 0 + _ ≤ _; omega, ⟨fun h => ⟨rfl, h⟩, fun h => h.2⟩⟩
        case round =>
          obtain ⟨k, m, qm, pth, rfl, rfl, rfl, hb, hk, hl, hqm, ht, hsz, hd0⟩ := hrel
          by_cases h1 : m = 1
          · subst h1
            have hk0 := hk.out.uniq Deep.root
            subst hk0
            have hpt : pth = T := by rw [← ht.out]; exact ByteArray.empty_append.symm
            by_cases h0 : d = 0
            · have hVo := hVH.out
              rw [if_pos h0] at hVo
              subst hVo
              have hpe : pth = ⟨#[]⟩ := by
                have := (hd0.1 h0).1
                exact ByteArray.size_eq_zero_iff.1 this
              subst hpe
              clear hpt ht
              go_wp2
              go_ret2
              exact ⟨rfl, hb.out⟩
            · have hVo := hVH.out
              rw [if_neg h0] at hVo
              subst hVo
              have hpe : pth.toList.isEmpty = false := by
                rw [Lib.toList_data]
                cases hx : pth.data.toList with
                | cons => rfl
                | nil =>
                  exfalso
                  refine h0 (hd0.2 ⟨?_, rfl⟩)
                  have h2 : pth.data.toList.length = pth.size := by rw [Array.length_toList]; rfl
                  rw [hx] at h2
                  exact h2.symm
              have hpe2 : pth.toList ≠ [] := fun e => by rw [e] at hpe; cases hpe
              subst hpt
              clear ht
              go_wp2
              go_ret2
              exact ⟨rfl, hb.out⟩
          · obtain ⟨k, rfl⟩ : ∃ k', k = k' + 1 := by
              cases k with
              | zero =>
                have h9 := hk.out
                cases h9
                exact absurd rfl h1
              | succ k => exact ⟨k, rfl⟩
            obtain ⟨M, hnM, hdM⟩ : ∃ I, node f (m : Int) = some I ∧ Deep f k I.parent := by
              have h9 := hk.out
              cases h9 with
              | up _ _ I _ hn hI => exact ⟨I, hn, hI⟩
            obtain ⟨hlM, mp, P, z, hpe, hP, _⟩ := hwH.out.ldUp hl.out h1 hnM
            obtain ⟨j, hmj, hqj⟩ := hqm.out
            subst hmj
            obtain ⟨j', hj', hj⟩ := nat_node hnM
            obtain rfl : j' = j := by omega
            obtain ⟨qj, hqj2, dvj, evj, hAj⟩ := hH.out.some_ j' M hj
            obtain rfl : qj = qm := by
              rw [hqj] at hqj2
              cases hqj2
              rfl
            obtain ⟨qp, hqp, dvp, evp, hAp⟩ := hH.out.some_ mp P hP
            have c2 : wr.cell? ⟨qj, 2, none⟩ = some (.int .i64 M.links) := (hAj.below hb.out).blk.cell 2
            have c6 : wr.cell? ⟨qj, 6, none⟩ = some (.int .i64 M.parent) := (hAj.below hb.out).blk.cell 6
            have hMl : M.links = 1 := by
              obtain ⟨j2, M2, e1, e2, _, e3⟩ := hl.out
              obtain rfl : j2 = j' := by omega
              rw [hj] at e2
              cases e2
              exact e3
            rw [hMl] at c2
            rw [hpe, show ((mp + 1 : Nat) : Int) = (mp : Int) + 1 by omega] at c6
            have hup := Lib.hid (node_yes (hH.out.below hb.out) hqp hlen)
            have hno := Lib.hid (nameOf_any (hAp.below hb.out) (hfH.out.2 mp P hP) (j' + 1))
            have hne : entsAt f M.parent = P.ents := by unfold entsAt; rw [hpe, node_nat hP]
            have hns := name_size hwH.out M.parent (j' + 1)
            rw [hne] at hns
            obtain ⟨nm, hnm⟩ : ∃ nm, nameM P.ents (j' + 1) = nm := ⟨_, rfl⟩
            have ht2 := ht.out
            rw [up_some hnM, hne, hnm] at ht2
            rw [hnm] at hno hns
            rw [show ((j' + 1 : Nat) : Int) = (j' : Int) + 1 by omega] at hno
            have hN := Lib.hid (show upM f k M.parent ++ ((slT ++ nm) ++ pth) = T by rw [← ht2]; simp [ByteArray.append_assoc])
            have hme := Lib.hid (show dep f M.parent < dep f (j' + 1) by rw [dep_eq hdM, dep_eq hk.out]; omega)
            have x1 : (((j' : Int) + 1) != 1) = true := bne_iff_ne.2 (by omega)
            have z1 : (slT ++ nm).size = 1 + nm.size := by rw [ByteArray.size_append]; rfl
            have z2 : ((slT ++ nm) ++ pth).size = 1 + nm.size + pth.size := by rw [ByteArray.size_append, z1]
            have hbs := hb.out.size
            rw [hpe] at hdM hlM hN hme
            have hdM2 := Lib.hid hdM
            have hlM2 := Lib.hid hlM
            have hqpH := Lib.hid hqp
            have hbw := hb
            clear hnM hdM hlM hP hqj hj hqj2 hAj hqp hAp hne hnm ht2 hMl ht
            go_wp2_with (first | (go_at_call 58; refine hup.out.mono ?_; rintro e wq ⟨rfl, rfl⟩) | (go_at_call 216; refine hno.out.mono ?_; rintro e w3 ⟨rfl, hb3⟩; have c6' := (World.cell?_of_block (a := ⟨qj, 6, none⟩) (hb3.block qj (block_of_cell c6))).trans c6; have hb4 := Lib.hid (show Below w'.heap.size w' w3 from hbw.out.trans (below_of hb3 hbs))))
            go_roundw
            case rel => exact ⟨k, mp + 1, qp, (slT ++ nm) ++ pth, by go_num, rfl, rfl, hb4, hdM2, hlM2, Lib.hid ⟨mp, rfl, hqpH.out⟩, hN, by rw [z2]; omega, by rw [z2]; omega⟩
            case measure => simpa [intOf] using hme.out
end
end Go.Proofs.YtmilagppbepnbaaGreat
/- All entries below a directory, as plain data; how many there are. No condition. -/
namespace Go.Proofs.YtmilagppbepnbaaGreat
open Go.RowKit
set_option linter.unusedVariables false
set_option linter.unusedSimpArgs false
end Go.Proofs.YtmilagppbepnbaaGreat
/- tree: all entries below a directory, to whatever yield. Condition: the tree lies as stated, and what holds along all calls holds. -/
namespace Go.Proofs.YtmilagppbepnbaaGreat
open Go.RowKit Go.Shelf Go.PlainAid
set_option linter.unusedVariables false
set_option linter.unusedSimpArgs false
attribute [local go_sem] Oper.semAt_some
end Go.Proofs.YtmilagppbepnbaaGreat
/- The law's tree: all entries as a row. Condition: the tree lies as stated, and what holds along all calls holds. -/
namespace Go.Proofs.YtmilagppbepnbaaGreat
open Go.RowKit Go.Shelf Go.PlainAid
set_option linter.unusedVariables false
set_option linter.unusedSimpArgs false
attribute [local go_sem] Oper.semAt_some
end Go.Proofs.YtmilagppbepnbaaGreat

/- The kernel as plain data, and in memory: parts that lie apart. No condition. -/
import Derived.Test.YtmilagppbepnbaaGreatKrC
import Derived.Test.YtmilagppbepnbaaGreatGFe
import Derived.Test.YtmilagppbepnbaaGreatPPb
namespace Go.Proofs.YtmilagppbepnbaaGreat
open Go.RowKit Go.PlainAid
set_option linter.unusedVariables false
set_option linter.unusedSimpArgs false
/-- A description; the pipe that it is an end of. -/
structure Dsc where
  kind : Nat
  n : Nat
  at_ : Nat
  refs : Int
  flags : Int
  pipe : Option Nat
  text : ByteArray
/-- A process. -/
structure Prc where
  num : Nat
  parent : Nat
  tab : Nat → Pp.Sl
  dir : Nat
  mask : Int
  ended : Bool
  status : Int
structure Ker where
  fs : Fs
  pipes : List (Nat × Pp.St)
  lastX : Nat
  descs : List (Nat × Dsc)
  lastD : Nat
  procs : List (Nat × Prc)
  lastR : Nat
  typed : ByteArray
  closed : Bool
  out1 : List UInt8
  out2 : List UInt8
/-! ### Things under numbers -/
section
variable {X : Type}
def ask (l : List (Nat × X)) (n : Nat) : Option X := match l with
  | [] => none
  | p :: t => if p.1 = n then some p.2 else ask t n
def put1 (l : List (Nat × X)) (n : Nat) (x : X) : List (Nat × X) := l.map (fun p => if p.1 = n then (n, x) else p)
def cut1 (l : List (Nat × X)) (n : Nat) : List (Nat × X) := l.filter (fun p => p.1 ≠ n)
def OrdK (l : List (Nat × X)) : Prop := (l.map (·.1)).Pairwise (· < ·)
def rowsOf (l : List (Nat × X)) (b : Nat → Nat) : List Rw := l.map (fun p => (p.1, b p.1))
theorem rows_len (l : List (Nat × X)) (b : Nat → Nat) : (rowsOf l b).length = l.length := List.length_map ..
theorem rows_nums (l : List (Nat × X)) (b : Nat → Nat) : (rowsOf l b).map (·.1) = l.map (·.1) := by unfold rowsOf; rw [List.map_map]; rfl
theorem rows_ord {l : List (Nat × X)} (h : OrdK l) (b : Nat → Nat) : Ord (rowsOf l b) := by unfold Ord; rw [rows_nums]; exact h
theorem ask_mem {l : List (Nat × X)} {n : Nat} {x : X} (h : ask l n = some x) : (n, x) ∈ l := by
  induction l with
  | nil => cases h
  | cons p t ih =>
    unfold ask at h
    split at h
    · rename_i e
      cases h
      rw [← e]
      exact List.mem_cons_self ..
    · exact List.mem_cons_of_mem _ (ih h)
theorem ask_of {l : List (Nat × X)} (ho : OrdK l) {n : Nat} {x : X} (h : (n, x) ∈ l) : ask l n = some x := by
  induction l with
  | nil => cases h
  | cons p t ih =>
    unfold OrdK at ho
    rw [List.map_cons, List.pairwise_cons] at ho
    unfold ask
    rcases List.mem_cons.1 h with e | e
    · subst e; rw [if_pos rfl]
    · have := ho.1 n (List.mem_map.2 ⟨(n, x), e, rfl⟩)
      rw [if_neg (by omega)]
      exact ih ho.2 e
theorem ask_none {l : List (Nat × X)} {n : Nat} : ask l n = none ↔ ∀ p ∈ l, p.1 ≠ n := by
  induction l with
  | nil => simp [ask]
  | cons p t ih =>
    unfold ask
    by_cases e : p.1 = n
    · simp [e]
    · rw [if_neg e, ih]
      simp [e]
theorem ask_put {l : List (Nat × X)} {n : Nat} {x y : X} (h : ask l n = some y) (m : Nat) : ask (put1 l n x) m = if m = n then some x else ask l m := by
  induction l with
  | nil => cases h
  | cons p t ih =>
    unfold put1 at *
    rw [List.map_cons]
    by_cases e : p.1 = n
    · rw [if_pos e]
      by_cases em : m = n
      · subst em; unfold ask; simp
      · rw [if_neg em]
        have ht : ask (t.map fun p => if p.1 = n then (n, x) else p) m = ask t m := by
          clear ih h
          induction t with
          | nil => rfl
          | cons r t ih =>
            rw [List.map_cons]
            by_cases er : r.1 = n
            · rw [if_pos er]; unfold ask; rw [if_neg (fun k => em k.symm), if_neg (fun k => em (k.symm.trans er)), ih]
            · rw [if_neg er]; unfold ask; rw [ih]
        unfold ask
        rw [if_neg (fun k => em k.symm), if_neg (fun k => em (k.symm.trans e)), ht]
    · rw [if_neg e]
      unfold ask at h ⊢
      rw [if_neg e] at h
      rw [ih h]
      by_cases em : m = n
      · subst em; rw [if_neg e, if_pos rfl, if_pos rfl]
      · rw [if_neg em, if_neg em]
theorem put1_nums (l : List (Nat × X)) (n : Nat) (x : X) : (put1 l n x).map (·.1) = l.map (·.1) := by
  unfold put1
  rw [List.map_map]
  apply List.map_congr_left
  intro p _
  simp only [Function.comp]
  split
  · rename_i e; exact e.symm
  · rfl
theorem put1_ord {l : List (Nat × X)} (h : OrdK l) (n : Nat) (x : X) : OrdK (put1 l n x) := by unfold OrdK; rw [put1_nums]; exact h
theorem put1_rows (l : List (Nat × X)) (n : Nat) (x : X) (b : Nat → Nat) : rowsOf (put1 l n x) b = rowsOf l b := by
  unfold rowsOf put1
  rw [List.map_map]
  apply List.map_congr_left
  intro p _
  simp only [Function.comp]
  split
  · rename_i e; rw [e]
  · rfl
theorem ask_cut {l : List (Nat × X)} {n m : Nat} : ask (cut1 l n) m = if m = n then none else ask l m := by
  induction l with
  | nil => simp [cut1, ask]
  | cons p t ih =>
    unfold cut1 at *
    by_cases e : p.1 = n
    · rw [List.filter_cons_of_neg (by simp [e]), ih]
      by_cases em : m = n
      · rw [if_pos em, if_pos em]
      · rw [if_neg em, if_neg em]
        conv => rhs; unfold ask
        rw [if_neg (fun k => em (k.symm.trans e))]
    · rw [List.filter_cons_of_pos (by simp [e])]
      unfold ask
      by_cases em : m = n
      · subst em
        rw [if_neg e, ih, if_pos rfl, if_pos rfl]
      · rw [ih, if_neg em, if_neg em]
theorem cut1_ord {l : List (Nat × X)} (h : OrdK l) (n : Nat) : OrdK (cut1 l n) := by
  unfold OrdK cut1 at *
  exact List.Pairwise.sublist (List.filter_sublist.map _) h
theorem rows_get {l : List (Nat × X)} (h : OrdK l) (b : Nat → Nat) (n : Nat) : getN (rowsOf l b) (n : Int) = (ask l n).map (fun _ => b n) := by
  cases ha : ask l n with
  | none =>
    have := ask_none.1 ha
    unfold getN
    rw [hasN_no (rows_ord h b) (fun r hr => by
      obtain ⟨p, hp, rfl⟩ := List.mem_map.1 hr
      have := this p hp
      intro e
      exact this (Int.ofNat.inj e))]
    rfl
  | some x =>
    have hm := ask_mem ha
    obtain ⟨i, hi⟩ := List.mem_iff_getElem?.1 hm
    have hri : (rowsOf l b)[i]? = some (n, b n) := by unfold rowsOf; rw [List.getElem?_map, hi]; rfl
    obtain ⟨h1, h2⟩ := hasN_of (rows_ord h b) hri
    unfold getN
    rw [h2, h1, hri]
    rfl
theorem rows_get_neg {l : List (Nat × X)} (h : OrdK l) (b : Nat → Nat) {x : Int} (hx : x < 0) : getN (rowsOf l b) x = none := by
  unfold getN
  rw [hasN_no (rows_ord h b) (fun r hr e => by omega)]
  rfl
theorem rows_cut {l : List (Nat × X)} (h : OrdK l) (b : Nat → Nat) (n : Nat) : cutN (rowsOf l b) (n : Int) = rowsOf (cut1 l n) b := by
  cases ha : ask l n with
  | none =>
    have hno := ask_none.1 ha
    unfold cutN
    rw [hasN_no (rows_ord h b) (fun r hr => by
      obtain ⟨p, hp, rfl⟩ := List.mem_map.1 hr
      have := hno p hp
      intro e
      exact this (Int.ofNat.inj e))]
    have : cut1 l n = l := by unfold cut1; exact List.filter_eq_self.2 (fun p hp => by simpa using hno p hp)
    rw [this]; rfl
  | some x =>
    have hm := ask_mem ha
    obtain ⟨i, hi⟩ := List.mem_iff_getElem?.1 hm
    have hri : (rowsOf l b)[i]? = some (n, b n) := by unfold rowsOf; rw [List.getElem?_map, hi]; rfl
    obtain ⟨h1, h2⟩ := hasN_of (rows_ord h b) hri
    unfold cutN
    rw [h2, if_pos rfl, h1]
    have key : ∀ (l : List (Nat × X)) (i : Nat), OrdK l → l[i]? = some (n, x) → l.eraseIdx i = cut1 l n := by
      intro l
      induction l with
      | nil => intro i _ hi; simp at hi
      | cons p t ih =>
        intro i ho hi
        unfold OrdK at ho
        rw [List.map_cons, List.pairwise_cons] at ho
        cases i with
        | zero =>
          obtain rfl : p = (n, x) := by simpa using hi
          unfold cut1
          rw [List.filter_cons_of_neg (by simp), List.eraseIdx_cons_zero]
          exact (List.filter_eq_self.2 (fun q hq => by
            have := ho.1 q.1 (List.mem_map.2 ⟨q, hq, rfl⟩)
            simp at this ⊢; omega)).symm
        | succ i =>
          have hi' : t[i]? = some (n, x) := by simpa using hi
          have := ho.1 n (List.mem_map.2 ⟨(n, x), List.mem_of_getElem? hi', rfl⟩)
          unfold cut1 at ih ⊢
          rw [List.filter_cons_of_pos (by simp; omega), List.eraseIdx_cons_succ, ih i ho.2 hi']
    have h3 := key l i h hi
    rw [← h3]
    unfold rowsOf
    have he : ∀ (l : List (Nat × X)) (i : Nat), (l.map (fun p => (p.1, b p.1))).eraseIdx i = (l.eraseIdx i).map (fun p => (p.1, b p.1)) := by
      intro l
      induction l with
      | nil => intro i; simp
      | cons p t ih => intro i; cases i <;> simp [ih]
    exact he l i
end
end Go.Proofs.YtmilagppbepnbaaGreat

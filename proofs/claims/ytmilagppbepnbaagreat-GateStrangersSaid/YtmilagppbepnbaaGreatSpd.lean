/- Rows of numbers and places, in order: plain. No condition. -/
import Derived.Test.YtmilagppbepnbaaGreatSpb
import Derived.Test.YtmilagppbepnbaaGreatSpc
import Derived.Deep.RegionLaw
import Derived.Laws.IdiomCopy
namespace Go.Proofs.YtmilagppbepnbaaGreat
open Go.RowKit Go.PlainAid
set_option linter.unusedVariables false
set_option linter.unusedSimpArgs false
/-- A number and the block of what stands under it. -/
abbrev Rw := Nat × Nat
def rcs (x : Rw) : List Value := [.int .i64 x.1, .pointer (some ⟨x.2, 0, none⟩)]
theorem rcs_len (x : Rw) : (rcs x).length = 2 := rfl
theorem rcs_one (x : Rw) : ∀ u ∈ rcs x, u.oneCell' = true := by simp [rcs, Value.oneCell']
/-- In order, each number once. -/
def Ord (l : List Rw) : Prop := (l.map (·.1)).Pairwise (· < ·)
/-- How many numbers are less. -/
def posN : List Rw → Int → Nat
  | [], _ => 0
  | k :: l, x => if (k.1 : Int) < x then posN l x + 1 else 0
def hasN (l : List Rw) (x : Int) : Bool := decide ((l[posN l x]?).map (fun r => (r.1 : Int)) = some x)
/-- The block that stands under a number. -/
def getN (l : List Rw) (x : Int) : Option Nat := if hasN l x then (l[posN l x]?).map (·.2) else none
theorem posN_is : ∀ {l : List Rw} {x : Int} {i : Nat}, i ≤ l.length → (∀ t y, t < i → l[t]? = some y → (y.1 : Int) < x) → (∀ t y, i ≤ t → l[t]? = some y → ¬ (y.1 : Int) < x) → posN l x = i
  | [], x, i, hi, _, _ => by simp at hi; rw [hi]; rfl
  | k :: l, x, 0, _, _, h2 => by unfold posN; rw [if_neg (h2 0 k (Nat.le_refl _) rfl)]
  | k :: l, x, i + 1, hi, h1, h2 => by
    unfold posN
    rw [if_pos (h1 0 k (Nat.succ_pos _) rfl), posN_is (i := i) (by simpa using hi) (fun t y ht hy => h1 (t + 1) y (by omega) (by simpa using hy)) (fun t y ht hy => h2 (t + 1) y (by omega) (by simpa using hy))]
theorem ord_lt {l : List Rw} (h : Ord l) {i j : Nat} {x y : Rw} (hi : l[i]? = some x) (hj : l[j]? = some y) (hij : i < j) : x.1 < y.1 := by
  unfold Ord at h
  have h1 : (l.map (·.1))[i]? = some x.1 := by rw [List.getElem?_map, hi]; rfl
  have h2 : (l.map (·.1))[j]? = some y.1 := by rw [List.getElem?_map, hj]; rfl
  obtain ⟨a, b⟩ := List.getElem?_eq_some_iff.1 h1
  obtain ⟨c, d⟩ := List.getElem?_eq_some_iff.1 h2
  have := List.pairwise_iff_getElem.1 h i j a c hij
  rw [b, d] at this
  exact this
theorem hasN_yes {l : List Rw} {x : Int} (h : hasN l x = true) : ∃ r, l[posN l x]? = some r ∧ (r.1 : Int) = x := by
  unfold hasN at h
  have := of_decide_eq_true h
  cases hl : l[posN l x]? with
  | none => rw [hl] at this; cases this
  | some r => rw [hl] at this; exact ⟨r, rfl, Option.some.inj this⟩
theorem hasN_of {l : List Rw} (h : Ord l) {r : Rw} {i : Nat} (hi : l[i]? = some r) : posN l (r.1 : Int) = i ∧ hasN l (r.1 : Int) = true := by
  have hp : posN l (r.1 : Int) = i := posN_is (Nat.le_of_lt (List.getElem?_eq_some_iff.1 hi).1) (fun t y ht hy => by have := ord_lt h hy hi ht; omega) (fun t y ht hy => by
    rcases Nat.eq_or_lt_of_le ht with e | e
    · subst e; rw [hi] at hy; cases hy; omega
    · have := ord_lt h hi hy e; omega)
  refine ⟨hp, ?_⟩
  unfold hasN
  rw [hp, hi]
  simp
theorem hasN_no {l : List Rw} (h : Ord l) {x : Int} (hn : ∀ r ∈ l, (r.1 : Int) ≠ x) : hasN l x = false := by
  cases hh : hasN l x with
  | false => rfl
  | true =>
    obtain ⟨r, hr, e⟩ := hasN_yes hh
    exact absurd e (hn r (List.mem_of_getElem? hr))
end Go.Proofs.YtmilagppbepnbaaGreat
/- cmp.Compare of two ints. No condition. -/
namespace Go.Proofs.YtmilagppbepnbaaGreat
open Go.RowKit Go.PlainAid
set_option linter.unusedVariables false
set_option linter.unusedSimpArgs false
attribute [local go_sem] Oper.semAt_some
def cmpI (a b : Int) : Int := if a < b then -1 else if b < a then 1 else 0
theorem isNaN_int (x : Int) (w : World) : Calls Tryz.prog 234 #[.int .i64 x] w fun e w' => e = .returned (.bool false) ∧ w' = w := by
  go_enter Tryz.func234, Tryz.ntmps234
  go_wp2
  go_ret
  exact ⟨by first | rfl | simp, rfl⟩
theorem compare_int (a b : Int) (w : World) : Calls Tryz.prog 167 #[.int .i64 a, .int .i64 b] w fun e w' => e = .returned (.int .i64 (cmpI a b)) ∧ w' = w := by
  rcases Int.lt_trichotomy a b with h | h | h
  · have hc : cmpI a b = -1 := by unfold cmpI; rw [if_pos h]
    rw [hc]
    clear hc
    have h2 : decide (a < b) = true := decide_eq_true h
    go_enter Tryz.func167, Tryz.ntmps167
    go_wp2_with (go_at_call 234; refine (isNaN_int _ _).mono ?_; rintro e w' ⟨rfl, rfl⟩)
    go_ret
    exact ⟨rfl, rfl⟩
  · subst h
    have hc : cmpI a a = 0 := by unfold cmpI; rw [if_neg (by omega), if_neg (by omega)]
    rw [hc]
    clear hc
    have h2 : decide (a < a) = false := decide_eq_false (by omega)
    go_enter Tryz.func167, Tryz.ntmps167
    go_wp2_with (go_at_call 234; refine (isNaN_int _ _).mono ?_; rintro e w' ⟨rfl, rfl⟩)
    go_ret
    exact ⟨rfl, rfl⟩
  · have hc : cmpI a b = 1 := by unfold cmpI; rw [if_neg (by omega), if_pos h]
    rw [hc]
    clear hc
    have h2 : decide (a < b) = false := decide_eq_false (by omega)
    have h3 : decide (a > b) = true := decide_eq_true h
    go_enter Tryz.func167, Tryz.ntmps167
    go_wp2_with (go_at_call 234; refine (isNaN_int _ _).mono ?_; rintro e w' ⟨rfl, rfl⟩)
    go_ret
    exact ⟨rfl, rfl⟩
/-- A register: its row and its last number, in a block with other things. -/
structure RegAt (ty : TypeId) (w : World) (q o : Nat) (T : TypeId) (cs : Array Value) (v : Value) (last : Nat) (l : List Rw) : Prop where
  blk : Blk w q T cs
  c0 : cs[o]? = some v
  c1 : cs[o + 1]? = some (.int .i64 last)
  row : w.ownsRow 0 ty 2 v l.length (flat rcs l)
  ord : Ord l
  le : ∀ r ∈ l, r.1 ≤ last
  small : last ≤ 1000000
theorem RegAt.keep {ty : TypeId} {w w' : World} {q o : Nat} {T : TypeId} {cs : Array Value} {v : Value} {last : Nat} {l : List Rw} (h : RegAt ty w q o T cs v last l) (hq : w'.heap[q]? = w.heap[q]?) (hv : ∀ g, v.ownBlock = some g → w'.heap[g]? = w.heap[g]?) : RegAt ty w' q o T cs v last l :=
  ⟨h.blk.keep hq, h.c0, h.c1, row_keep h.row hv, h.ord, h.le, h.small⟩
theorem RegAt.below {ty : TypeId} {w w' : World} {q o : Nat} {T : TypeId} {cs : Array Value} {v : Value} {last : Nat} {l : List Rw} (h : RegAt ty w q o T cs v last l) (hb : Below w.heap.size w w') : RegAt ty w' q o T cs v last l :=
  h.keep (hb.block q h.blk.lt) (fun g hg => hb.block g (row_lt h.row hg))
theorem set_sameC {cs : Array Value} {o : Nat} {v : Value} (h : cs[o]? = some v) : cs.setIfInBounds o v = cs := by
  apply Array.ext_getElem?
  intro i
  by_cases e : o = i
  · subst e
    rw [Array.getElem?_setIfInBounds_self_of_lt (Array.getElem?_eq_some_iff.1 h).1, h]
  · rw [Array.getElem?_setIfInBounds_ne e]
theorem erase_ord {l : List Rw} (h : Ord l) (i : Nat) : Ord (l.eraseIdx i) := by
  unfold Ord at *
  exact List.Pairwise.sublist ((List.eraseIdx_sublist l i).map _) h
/-- Without a number. -/
def cutN (l : List Rw) (x : Int) : List Rw := if hasN l x then l.eraseIdx (posN l x) else l
theorem ord_len {l : List Rw} {last : Nat} (h : Ord l) (hl : ∀ r ∈ l, r.1 ≤ last) (h1 : ∀ r ∈ l, 1 ≤ r.1) : l.length ≤ last := by
  have key : ∀ (l : List Nat) (a : Nat), l.Pairwise (· < ·) → (∀ x ∈ l, a < x ∧ x ≤ last) → l.length + a ≤ last ∨ l = [] := by
    intro l
    induction l with
    | nil => intro a _ _; exact .inr rfl
    | cons x l ih =>
      intro a hp hx
      rw [List.pairwise_cons] at hp
      have h0 := hx x (List.mem_cons_self ..)
      rcases ih x hp.2 (fun y hy => ⟨hp.1 y hy, (hx y (List.mem_cons_of_mem _ hy)).2⟩) with h2 | h2
      · left; rw [List.length_cons]; omega
      · left; rw [h2]; simp; omega
  rcases key (l.map (fun r : Rw => r.1)) 0 h (fun x hx => by
    obtain ⟨r, hr, rfl⟩ := List.mem_map.1 hx
    exact ⟨h1 r hr, hl r hr⟩) with h2 | h2
  · simpa using h2
  · have : l = [] := List.map_eq_nil_iff.1 h2
    rw [this]; simp
end Go.Proofs.YtmilagppbepnbaaGreat
/- A register: search, find, get, count, put, cut. Condition: it lies as stated. -/
namespace Go.Proofs.YtmilagppbepnbaaGreat.RR
open Go.RowKit Go.PlainAid
set_option linter.unusedVariables false
set_option linter.unusedSimpArgs false
attribute [local go_sem] Oper.semAt_some
theorem infoR : (Tryz.prog.info? 166).map (fun i => (i.zero, i.size, i.bytes)) = some (some (.agg #[.int .i64 0, .pointer none]), 2, 16) := by kernel_rfl
theorem cmp_any (a : Nat) (b : Nat) (x : Int) (w : World) : Calls Tryz.prog 166 #[.agg #[.int .i64 a, .pointer (some ⟨b, 0, none⟩)], .int .i64 x] w fun e w' => e = .returned (.int .i64 (cmpI a x)) ∧ Below w.heap.size w w' := by
  go_enter Tryz.func166, Tryz.ntmps166
  go_wp2_with (go_at_call 167; refine (compare_int _ _ _).mono ?_; rintro e w' ⟨rfl, rfl⟩)
  go_ret
  exact ⟨rfl, (Below.refl _ _).alloc (Nat.le_refl _) _⟩
set_option maxHeartbeats 4000000 in
set_option maxRecDepth 100000 in
theorem search_any (l : List Rw) (x : Int) (ev : Value) (w : World) (hrow : w.ownsRow 0 166 2 ev l.length (flat rcs l)) (hlen : l.length ≤ 1000000) (hs : Ord l) :
    Calls Tryz.prog 165 #[ev, .int .i64 x, .func (.func 166) #[] #[]] w fun e w' => e = .returned (.tuple #[.int .i64 (posN l x : Nat), .bool (hasN l x)]) ∧ Below w.heap.size w w' := by
  obtain ⟨n, hn⟩ : ∃ n, l.length = n := ⟨_, rfl⟩
  obtain ⟨a, c, rfl⟩ := ownsRow_slice hrow
  have hat : ∀ (i : Nat) (y : Rw), l[i]? = some y → ∃ g, a = some ⟨g, 0, none⟩ ∧ g < w.heap.size ∧ w.cell? ⟨g, i * 2, none⟩ = some (.int .i64 y.1) ∧ w.cell? ⟨g, i * 2 + 1, none⟩ = some (.pointer (some ⟨y.2, 0, none⟩)) := fun i y hy => by
    obtain ⟨g, cap, e, _, h1, _⟩ := row_at rcs_len hrow hy
    obtain ⟨rfl, rfl⟩ : a = some ⟨g, 0, none⟩ ∧ c = cap := by simpa using e
    have c0 := h1 0 _ rfl
    exact ⟨g, rfl, block_of_cell c0, c0, h1 1 _ rfl⟩
  have hatH := Lib.hid hat
  have hsH := Lib.hid hs
  have hnH := Lib.hid hn
  rw [hn] at hlen ⊢
  clear hat hrow hs hn
  go_enter Tryz.func165, Tryz.ntmps165
  go_wp2
  go_loopw [9, 10] (fun s9 s10 wr => ∃ lo hi : Nat, s9 = .int .i64 lo ∧ s10 = .int .i64 hi ∧ lo ≤ hi ∧ hi ≤ n ∧ Hid (Below w.heap.size w wr) ∧ Hid ((∀ t y, t < lo → l[t]? = some y → (y.1 : Int) < x) ∧ (∀ t y, hi ≤ t → l[t]? = some y → x ≤ (y.1 : Int)))) (fun s9 s10 _ => (intOf s10).toNat - (intOf s9).toNat)
  case atStart => exact ⟨0, n, rfl, rfl, Nat.zero_le _, Nat.le_refl _, Lib.hid (Below.refl _ _), Lib.hid ⟨fun t y h => absurd h (Nat.not_lt_zero _), fun t y h1 h2 => by have := (List.getElem?_eq_some_iff.1 h2).1; have := hnH.out; omega⟩⟩
  case round =>
    obtain ⟨lo, hi, rfl, rfl, hlh, hin, hb, hI⟩ := hrel
    by_cases hlt : lo < hi
    · obtain ⟨y, hy⟩ : ∃ y, l[(lo + hi) / 2]? = some y := ⟨_, List.getElem?_eq_getElem (by have := hnH.out; omega)⟩
      obtain ⟨g, rfl, hgl, c0, c1⟩ := hatH.out _ _ hy
      have d0 := (World.cell?_of_block (a := ⟨g, (lo + hi) / 2 * 2, none⟩) (hb.out.block g hgl)).trans c0
      have d1 := (World.cell?_of_block (a := ⟨g, (lo + hi) / 2 * 2 + 1, none⟩) (hb.out.block g hgl)).trans c1
      have hyH := Lib.hid hy
      obtain ⟨ya, yb⟩ := y
      dsimp only at d0 d1
      clear c0 c1 hy
      by_cases hc : (ya : Int) < x
      · have hI2 : Hid ((∀ t y, t < (lo + hi) / 2 + 1 → l[t]? = some y → (y.1 : Int) < x) ∧ (∀ t y, hi ≤ t → l[t]? = some y → x ≤ (y.1 : Int))) := Lib.hid ⟨fun t y h1 h2 => by
          by_cases e : t = (lo + hi) / 2
          · rw [e, hyH.out] at h2; cases h2; exact hc
          · have := ord_lt hsH.out h2 hyH.out (by omega); simp at this; omega, hI.out.2⟩
        have hm : cmpI ya x = -1 := by unfold cmpI; rw [if_pos hc]
        go_wp2_with (go_at_call 166; refine (cmp_any ya yb x _).mono ?_; rintro e w' ⟨rfl, hb2⟩; have hb3 := Lib.hid (hb.out.trans (hb2.mono hb.out.size)); clear hb2; rw [hm])
        go_roundw
        case rel => exact ⟨(lo + hi) / 2 + 1, hi, by go_num, rfl, by omega, hin, hb3, hI2⟩
        case measure => simp [intOf]; omega
      · have hI2 : Hid ((∀ t y, t < lo → l[t]? = some y → (y.1 : Int) < x) ∧ (∀ t y, (lo + hi) / 2 ≤ t → l[t]? = some y → x ≤ (y.1 : Int))) := Lib.hid ⟨hI.out.1, fun t y h1 h2 => by
          by_cases e : t = (lo + hi) / 2
          · rw [e, hyH.out] at h2; cases h2; exact Int.not_lt.1 hc
          · have := ord_lt hsH.out hyH.out h2 (by omega); simp at this; omega⟩
        obtain ⟨m, hm, hm2⟩ : ∃ m : Int, cmpI ya x = m ∧ decide (m < 0) = false := ⟨_, rfl, by unfold cmpI; rw [if_neg hc]; split <;> rfl⟩
        go_wp2_with (go_at_call 166; refine (cmp_any ya yb x _).mono ?_; rintro e w' ⟨rfl, hb2⟩; have hb3 := Lib.hid (hb.out.trans (hb2.mono hb.out.size)); clear hb2; rw [hm])
        go_roundw
        case rel => exact ⟨lo, (lo + hi) / 2, rfl, by go_num, by omega, by omega, hb3, hI2⟩
        case measure => simp [intOf]; omega
    · obtain rfl : hi = lo := by omega
      have hpos : Hid (posN l x = hi) := Lib.hid (posN_is (by rw [hnH.out]; exact hin) hI.out.1 (fun t y h1 h2 => Int.not_lt.2 (hI.out.2 t y h1 h2)))
      by_cases hin2 : hi < n
      · obtain ⟨y, hy⟩ : ∃ y, l[hi]? = some y := ⟨_, List.getElem?_eq_getElem (by have := hnH.out; omega)⟩
        obtain ⟨g, rfl, hgl, c0, c1⟩ := hatH.out _ _ hy
        have d0 := (World.cell?_of_block (a := ⟨g, hi * 2, none⟩) (hb.out.block g hgl)).trans c0
        have d1 := (World.cell?_of_block (a := ⟨g, hi * 2 + 1, none⟩) (hb.out.block g hgl)).trans c1
        obtain ⟨ya, yb⟩ := y
        have hge := Int.not_lt.2 (hI.out.2 hi _ (Nat.le_refl _) hy)
        have hhas : Hid (hasN l x = (cmpI ya x == 0)) := Lib.hid (by
          unfold hasN cmpI
          rw [hpos.out, hy]
          simp only [Option.map_some, Option.some.injEq]
          rw [if_neg hge]
          by_cases e : (ya : Int) = x
          · rw [e, if_neg (by omega)]; simp
          · rw [if_pos (by dsimp only at hge; omega)]; simp [e])
        obtain ⟨m, hm⟩ : ∃ m : Int, cmpI ya x = m := ⟨_, rfl⟩
        rw [hm] at hhas
        dsimp only at d0 d1
        clear c0 c1 hy hge
        go_wp2_with (go_at_call 166; refine (cmp_any ya yb x _).mono ?_; rintro e w' ⟨rfl, hb2⟩; have hb3 := Lib.hid (hb.out.trans (hb2.mono hb.out.size)); clear hb2; rw [hm])
        go_ret2
        refine ⟨?_, hb3.out⟩
        rw [hpos.out, hhas.out]
        rfl
      · have hhas : Hid (hasN l x = false) := Lib.hid (by
          unfold hasN
          rw [List.getElem?_eq_none (by rw [hpos.out, hnH.out]; omega)]
          rfl)
        go_wp2
        go_ret2
        exact ⟨by rw [hpos.out, hhas.out]; rfl, hb.out⟩
section
variable {w : World} {q o : Nat} {T : TypeId} {cs : Array Value} {v : Value} {last : Nat} {l : List Rw}
theorem find_any (h : RegAt 166 w q o T cs v last l) (hl : l.length ≤ 1000000) (x : Int) : Calls Tryz.prog 98 #[.pointer (some ⟨q, o, none⟩), .int .i64 x] w fun e w' => e = .returned (.tuple #[.int .i64 (posN l x : Nat), .bool (hasN l x)]) ∧ Below w.heap.size w w' := by
  have c0 : w.cell? ⟨q, o, none⟩ = some v := (h.blk.cell o).trans h.c0
  have hs := Lib.hid (search_any l x v w h.row hl h.ord)
  clear h
  go_enter Tryz.func98, Tryz.ntmps98
  go_wp2_with (go_at_call 165; refine hs.out.mono ?_; rintro e w' ⟨rfl, hb⟩)
  go_ret2
  exact ⟨rfl, hb⟩
set_option maxRecDepth 100000 in
theorem get_any (h : RegAt 166 w q o T cs v last l) (hl : l.length ≤ 1000000) (x : Int) : Calls Tryz.prog 84 #[.pointer (some ⟨q, o, none⟩), .int .i64 x] w fun e w' => e = .returned (ptrV (getN l x)) ∧ Below w.heap.size w w' := by
  have c0 : w.cell? ⟨q, o, none⟩ = some v := (h.blk.cell o).trans h.c0
  have hf := Lib.hid (find_any h hl x)
  have hqlt := h.blk.lt
  cases hh : hasN l x with
  | false =>
    have hg : getN l x = none := by unfold getN; rw [hh]; rfl
    rw [hg]
    have hhH := Lib.hid hh
    clear h hh hg
    go_enter Tryz.func84, Tryz.ntmps84
    go_wp2_with (go_at_call 98; refine hf.out.mono ?_; rintro e w' ⟨rfl, hb⟩; rw [hhH.out])
    go_ret
    exact ⟨rfl, hb⟩
  | true =>
    obtain ⟨r, hr, _⟩ := hasN_yes hh
    obtain ⟨g, cap, rfl, _, h1, _⟩ := row_at rcs_len h.row hr
    have d1 : w.cell? ⟨g, posN l x * 2 + 1, none⟩ = some (.pointer (some ⟨r.2, 0, none⟩)) := h1 1 _ rfl
    have hglt := block_of_cell d1
    have hg : getN l x = some r.2 := by unfold getN; rw [hh, hr]; rfl
    have hil := (List.getElem?_eq_some_iff.1 hr).1
    rw [hg]
    have hhH := Lib.hid hh
    obtain ⟨i, hi⟩ : ∃ i, posN l x = i := ⟨_, rfl⟩
    obtain ⟨n, hn⟩ : ∃ n, l.length = n := ⟨_, rfl⟩
    rw [hi] at d1 hil
    rw [hn] at c0 hil
    have hiH := Lib.hid hi
    have k0 := Lib.hid c0
    have k1 := Lib.hid d1
    clear h hh hg hr h1 hi hn c0 d1 hl
    go_enter Tryz.func84, Tryz.ntmps84
    go_wp2_with (go_at_call 98; refine hf.out.mono ?_; rintro e w' ⟨rfl, hb⟩; rw [hhH.out, hiH.out]; have e0 : w'.cell? ⟨q, o, none⟩ = some (.slice (some ⟨g, 0, none⟩) n cap) := (hb.cell hqlt).trans k0.out; have e1 : w'.cell? ⟨g, i * 2 + 1, none⟩ = some (.pointer (some ⟨r.2, 0, none⟩)) := (hb.cell hglt).trans k1.out)
    go_ret
    exact ⟨rfl, hb⟩
theorem count_any (h : RegAt 166 w q o T cs v last l) : Calls Tryz.prog 224 #[.pointer (some ⟨q, o, none⟩)] w fun e w' => e = .returned (.int .i64 (l.length : Nat)) ∧ w' = w := by
  obtain ⟨a, c, rfl⟩ := ownsRow_slice h.row
  have c0 : w.cell? ⟨q, o, none⟩ = some (.slice a l.length c) := (h.blk.cell o).trans h.c0
  clear h
  go_enter Tryz.func224, Tryz.ntmps224
  go_wp2
  go_ret
  exact ⟨rfl, rfl⟩
set_option maxRecDepth 100000 in
set_option maxHeartbeats 4000000 in
theorem put_any (h : RegAt 166 w q o T cs v last l) (hT : T ≠ 166) (hl : last < 1000000) (hlen : l.length < 1000000) (ho : o + 1 < cs.size) (b : Nat) : Calls Tryz.prog 29 #[.pointer (some ⟨q, o, none⟩), .pointer (some ⟨b, 0, none⟩)] w fun e w' =>
    e = .returned (.int .i64 ((last : Int) + 1)) ∧ ∃ v', RegAt 166 w' q o T ((cs.setIfInBounds (o + 1) (.int .i64 ((last + 1 : Nat) : Int))).setIfInBounds o v') v' (last + 1) (l ++ [(last + 1, b)]) ∧ (∀ g, v'.ownBlock = some g → v.ownBlock = some g ∨ w.heap.size ≤ g) ∧ Frm (fun g => g = q ∨ v.ownBlock = some g) w w' := by
  obtain ⟨i0, hi0, hz0, hz1, hz2⟩ := info_parts infoR
  obtain ⟨a, c, rfl⟩ := ownsRow_slice h.row
  have c0 : w.cell? ⟨q, o, none⟩ = some (.slice a l.length c) := (h.blk.cell o).trans h.c0
  have c1 : w.cell? ⟨q, o + 1, none⟩ = some (.int .i64 last) := (h.blk.cell (o + 1)).trans h.c1
  have f0 := h.blk.frozen o
  have f1 := h.blk.frozen (o + 1)
  have hoff := row_off h.blk hT h.row
  obtain ⟨W1, hW1⟩ : ∃ W, w.setCell ⟨q, o + 1, none⟩ (.int .i64 ((last : Int) + 1)) = W := ⟨_, rfl⟩
  have hB1 : Blk W1 q T (cs.setIfInBounds (o + 1) (.int .i64 ((last : Int) + 1))) := by rw [← hW1]; exact h.blk.set_ _ _
  have hrow1 : W1.ownsRow 0 166 2 (.slice a l.length c) l.length (flat rcs l) := by
    rw [← hW1]; exact row_keep h.row (fun g hg => Below.heap_setCell _ _ _ _ (fun e => hoff (by rw [hg]; exact congrArg some e.symm)))
  have hF1 : Frm (fun g => g = q ∨ (Value.slice a l.length c).ownBlock = some g) w W1 := by rw [← hW1]; exact (Frm.refl _ _).setCell (a := ⟨q, o + 1, none⟩) (.inl (.inl rfl)) _
  have d0 : W1.cell? ⟨q, o, none⟩ = some (.slice a l.length c) := by rw [hB1.cell, Array.getElem?_setIfInBounds_ne (by omega)]; exact h.c0
  have d1 : W1.cell? ⟨q, o + 1, none⟩ = some (.int .i64 ((last : Int) + 1)) := by rw [hB1.cell, Array.getElem?_setIfInBounds_self_of_lt ho]
  have g0 := hB1.frozen o
  have g1 := hB1.frozen (o + 1)
  have hsz : W1.heap.size = w.heap.size := by rw [← hW1]; simp
  have hql : q < W1.heap.size := hB1.lt
  obtain ⟨n, hn⟩ : ∃ n, l.length = n := ⟨_, rfl⟩
  rw [hn] at d0 hrow1 hlen c0 hoff hF1
  have hrow1H := Lib.hid hrow1
  have hB1H := Lib.hid hB1
  have hF1H := Lib.hid hF1
  have hoffH := Lib.hid hoff
  have hH := Lib.hid h
  have hW1H := Lib.hid hW1
  have hnH := Lib.hid hn
  have hszH := Lib.hid hsz
  clear hrow1 hB1 hF1 hoff h hW1 hn hsz
  go_enter Tryz.func29, Tryz.ntmps29
  go_upto_region 2 with fail
  rw [hW1H.out]
  go_region_law (first
    | (refine step_append_lies _ rfl (.tmp 16) (.tmp 23) 73 rfl 0 166 i0 _ 2 16 Tryz.underlying73 hi0 hz0 hz1 hz2 rfl (by decide) (.slice a n c) n (flat rcs l) (by rfl) (hrow1H.out.alloc _) ⟨W1.heap.size, 0, none⟩ 1 1 [.int .i64 ((last : Int) + 1), .pointer (some ⟨b, 0, none⟩)] (by rfl) (by rfl) (fun j u hj => by
          rw [Addr.add_lit, Nat.zero_add]
          exact ((Blk.new W1 _ #[.int .i64 ((last : Int) + 1), .pointer (some ⟨b, 0, none⟩)]).cell j).trans (by rw [← hj, ← Array.getElem?_toList])) (by intro u hu; simp at hu; rcases hu with rfl | rfl <;> rfl) (by decide) (by unfold maxLen; omega) (by omega) (Nat.zero_le _) _ rfl ?_; intro gg cc w' hown hgr hat hlt
       have hB2 : Blk w' q T (cs.setIfInBounds (o + 1) (.int .i64 ((last : Int) + 1))) := (hgr.block q (by have := hB1H.out.lt; first | (simp only [World.size_drew, World.size_alloc]; omega) | (simp; omega)) hoffH.out).trans (hB1H.out.alloc _)
       have e0 : w'.cell? ⟨q, o, none⟩ = some (.slice a n c) := by rw [hB2.cell, Array.getElem?_setIfInBounds_ne (by omega), hH.out.c0, hnH.out]
       have e1 : w'.cell? ⟨q, o + 1, none⟩ = some (.int .i64 ((last : Int) + 1)) := by rw [hB2.cell, Array.getElem?_setIfInBounds_self_of_lt ho]
       have k0 := hB2.frozen o
       have k1 := hB2.frozen (o + 1)
       have hB2H := Lib.hid hB2
       have hownH := Lib.hid hown
       have hgrH := Lib.hid hgr
       have hatH := Lib.hid hat
       clear hB2 hown hgr hat hlt)
    | fail)
  all_goals
    have hgr2 := hgrH.out
    have hgq : gg ≠ q := fun e => by
      rcases hatH.out with h1 | h1
      · exact hoffH.out (by rw [h1, e])
      · have h2 : gg = (W1.alloc (.cells #[.int .i64 ((last : Int) + 1), .pointer (some ⟨b, 0, none⟩)] 166)).heap.size := h1
        rw [World.size_alloc] at h2
        omega
    have hlast : ((last + 1 : Nat) : Int) = (last : Int) + 1 := rfl
    have hfin : RegAt 166 (w'.setCell ⟨q, o, none⟩ (.slice (some ⟨gg, 0, none⟩) (n + 1) cc)) q o T ((cs.setIfInBounds (o + 1) (.int .i64 ((last + 1 : Nat) : Int))).setIfInBounds o (.slice (some ⟨gg, 0, none⟩) (n + 1) cc)) (.slice (some ⟨gg, 0, none⟩) (n + 1) cc) (last + 1) (l ++ [(last + 1, b)]) := by
      refine ⟨hB2H.out.set_ o _, by rw [Array.getElem?_setIfInBounds_self_of_lt (by simp; omega)], by rw [Array.getElem?_setIfInBounds_ne (by omega), Array.getElem?_setIfInBounds_self_of_lt ho], ?_, ?_, ?_, by omega⟩
      · have h3 : w'.ownsRow 0 166 2 (.slice (some ⟨gg, 0, none⟩) (n + 1) cc) (l ++ [(last + 1, b)]).length (flat rcs (l ++ [(last + 1, b)])) := by
          rw [flat_append, List.length_append, hnH.out]
          exact hownH.out
        exact row_keep h3 (fun g hg => by
          obtain rfl : gg = g := by simpa [Value.ownBlock] using hg
          exact Below.heap_setCell _ _ _ _ hgq)
      · unfold Ord
        rw [List.map_append, List.pairwise_append]
        refine ⟨hH.out.ord, List.pairwise_singleton _ _, fun x hx y hy => ?_⟩
        obtain ⟨r, hr, rfl⟩ := List.mem_map.1 hx
        obtain rfl : y = last + 1 := by simpa using hy
        have := hH.out.le r hr
        omega
      · intro r hr
        rcases List.mem_append.1 hr with hr | hr
        · have := hH.out.le r hr; omega
        · obtain rfl : r = (last + 1, b) := by simpa using hr
          exact Nat.le_refl _
    have hown2 : ∀ g, (Value.slice (some ⟨gg, 0, none⟩) (n + 1) cc).ownBlock = some g → (Value.slice a n c).ownBlock = some g ∨ w.heap.size ≤ g := fun g hg => by
      obtain rfl : gg = g := by simpa [Value.ownBlock] using hg
      rcases hatH.out with h1 | h1
      · exact .inl h1
      · right
        have h2 : gg = (W1.alloc (.cells #[.int .i64 ((last : Int) + 1), .pointer (some ⟨b, 0, none⟩)] 166)).heap.size := h1
        rw [World.size_alloc, hszH.out] at h2
        omega
    have hfr : Frm (fun g => g = q ∨ (Value.slice a n c).ownBlock = some g) w (w'.setCell ⟨q, o, none⟩ (.slice (some ⟨gg, 0, none⟩) (n + 1) cc)) := by
      have h1 := (hF1H.out.alloc (.cells #[.int .i64 ((last : Int) + 1), .pointer (some ⟨b, 0, none⟩)] 166))
      have h2 : Frm (fun g => g = q ∨ (Value.slice a n c).ownBlock = some g) w w' := Frm.grown (w1 := (W1.alloc (.cells #[.int .i64 ((last : Int) + 1), .pointer (some ⟨b, 0, none⟩)] 166)).drew) ⟨h1.os, h1.tape, h1.output, h1.size, h1.block⟩ hgr2 (fun g hg => .inl (.inr hg))
      exact h2.setCell (a := ⟨q, o, none⟩) (.inl (.inl rfl)) _
    have hfinH := Lib.hid hfin
    have hown2H := Lib.hid hown2
    have hfrH := Lib.hid hfr
    clear hfin hown2 hfr hgr2
    go_wp2_with fail
    go_ret
    exact ⟨by first | rfl | (push_cast; rfl), _, hfinH.out, by rw [hnH.out]; exact hown2H.out, by rw [hnH.out]; exact hfrH.out⟩
end
end Go.Proofs.YtmilagppbepnbaaGreat.RR
/- A register: search, find, get, count, put, cut. Condition: it lies as stated. -/
namespace Go.Proofs.YtmilagppbepnbaaGreat.RD
open Go.RowKit Go.PlainAid
set_option linter.unusedVariables false
set_option linter.unusedSimpArgs false
attribute [local go_sem] Oper.semAt_some
theorem infoR : (Tryz.prog.info? 218).map (fun i => (i.zero, i.size, i.bytes)) = some (some (.agg #[.int .i64 0, .pointer none]), 2, 16) := by kernel_rfl
theorem cmp_any (a : Nat) (b : Nat) (x : Int) (w : World) : Calls Tryz.prog 169 #[.agg #[.int .i64 a, .pointer (some ⟨b, 0, none⟩)], .int .i64 x] w fun e w' => e = .returned (.int .i64 (cmpI a x)) ∧ Below w.heap.size w w' := by
  go_enter Tryz.func169, Tryz.ntmps169
  go_wp2_with (go_at_call 167; refine (compare_int _ _ _).mono ?_; rintro e w' ⟨rfl, rfl⟩)
  go_ret
  exact ⟨rfl, (Below.refl _ _).alloc (Nat.le_refl _) _⟩
set_option maxHeartbeats 4000000 in
set_option maxRecDepth 100000 in
theorem search_any (l : List Rw) (x : Int) (ev : Value) (w : World) (hrow : w.ownsRow 0 218 2 ev l.length (flat rcs l)) (hlen : l.length ≤ 1000000) (hs : Ord l) :
    Calls Tryz.prog 168 #[ev, .int .i64 x, .func (.func 169) #[] #[]] w fun e w' => e = .returned (.tuple #[.int .i64 (posN l x : Nat), .bool (hasN l x)]) ∧ Below w.heap.size w w' := by
  obtain ⟨n, hn⟩ : ∃ n, l.length = n := ⟨_, rfl⟩
  obtain ⟨a, c, rfl⟩ := ownsRow_slice hrow
  have hat : ∀ (i : Nat) (y : Rw), l[i]? = some y → ∃ g, a = some ⟨g, 0, none⟩ ∧ g < w.heap.size ∧ w.cell? ⟨g, i * 2, none⟩ = some (.int .i64 y.1) ∧ w.cell? ⟨g, i * 2 + 1, none⟩ = some (.pointer (some ⟨y.2, 0, none⟩)) := fun i y hy => by
    obtain ⟨g, cap, e, _, h1, _⟩ := row_at rcs_len hrow hy
    obtain ⟨rfl, rfl⟩ : a = some ⟨g, 0, none⟩ ∧ c = cap := by simpa using e
    have c0 := h1 0 _ rfl
    exact ⟨g, rfl, block_of_cell c0, c0, h1 1 _ rfl⟩
  have hatH := Lib.hid hat
  have hsH := Lib.hid hs
  have hnH := Lib.hid hn
  rw [hn] at hlen ⊢
  clear hat hrow hs hn
  go_enter Tryz.func168, Tryz.ntmps168
  go_wp2
  go_loopw [9, 10] (fun s9 s10 wr => ∃ lo hi : Nat, s9 = .int .i64 lo ∧ s10 = .int .i64 hi ∧ lo ≤ hi ∧ hi ≤ n ∧ Hid (Below w.heap.size w wr) ∧ Hid ((∀ t y, t < lo → l[t]? = some y → (y.1 : Int) < x) ∧ (∀ t y, hi ≤ t → l[t]? = some y → x ≤ (y.1 : Int)))) (fun s9 s10 _ => (intOf s10).toNat - (intOf s9).toNat)
  case atStart => exact ⟨0, n, rfl, rfl, Nat.zero_le _, Nat.le_refl _, Lib.hid (Below.refl _ _), Lib.hid ⟨fun t y h => absurd h (Nat.not_lt_zero _), fun t y h1 h2 => by have := (List.getElem?_eq_some_iff.1 h2).1; have := hnH.out; omega⟩⟩
  case round =>
    obtain ⟨lo, hi, rfl, rfl, hlh, hin, hb, hI⟩ := hrel
    by_cases hlt : lo < hi
    · obtain ⟨y, hy⟩ : ∃ y, l[(lo + hi) / 2]? = some y := ⟨_, List.getElem?_eq_getElem (by have := hnH.out; omega)⟩
      obtain ⟨g, rfl, hgl, c0, c1⟩ := hatH.out _ _ hy
      have d0 := (World.cell?_of_block (a := ⟨g, (lo + hi) / 2 * 2, none⟩) (hb.out.block g hgl)).trans c0
      have d1 := (World.cell?_of_block (a := ⟨g, (lo + hi) / 2 * 2 + 1, none⟩) (hb.out.block g hgl)).trans c1
      have hyH := Lib.hid hy
      obtain ⟨ya, yb⟩ := y
      dsimp only at d0 d1
      clear c0 c1 hy
      by_cases hc : (ya : Int) < x
      · have hI2 : Hid ((∀ t y, t < (lo + hi) / 2 + 1 → l[t]? = some y → (y.1 : Int) < x) ∧ (∀ t y, hi ≤ t → l[t]? = some y → x ≤ (y.1 : Int))) := Lib.hid ⟨fun t y h1 h2 => by
          by_cases e : t = (lo + hi) / 2
          · rw [e, hyH.out] at h2; cases h2; exact hc
          · have := ord_lt hsH.out h2 hyH.out (by omega); simp at this; omega, hI.out.2⟩
        have hm : cmpI ya x = -1 := by unfold cmpI; rw [if_pos hc]
        go_wp2_with (go_at_call 169; refine (cmp_any ya yb x _).mono ?_; rintro e w' ⟨rfl, hb2⟩; have hb3 := Lib.hid (hb.out.trans (hb2.mono hb.out.size)); clear hb2; rw [hm])
        go_roundw
        case rel => exact ⟨(lo + hi) / 2 + 1, hi, by go_num, rfl, by omega, hin, hb3, hI2⟩
        case measure => simp [intOf]; omega
      · have hI2 : Hid ((∀ t y, t < lo → l[t]? = some y → (y.1 : Int) < x) ∧ (∀ t y, (lo + hi) / 2 ≤ t → l[t]? = some y → x ≤ (y.1 : Int))) := Lib.hid ⟨hI.out.1, fun t y h1 h2 => by
          by_cases e : t = (lo + hi) / 2
          · rw [e, hyH.out] at h2; cases h2; exact Int.not_lt.1 hc
          · have := ord_lt hsH.out hyH.out h2 (by omega); simp at this; omega⟩
        obtain ⟨m, hm, hm2⟩ : ∃ m : Int, cmpI ya x = m ∧ decide (m < 0) = false := ⟨_, rfl, by unfold cmpI; rw [if_neg hc]; split <;> rfl⟩
        go_wp2_with (go_at_call 169; refine (cmp_any ya yb x _).mono ?_; rintro e w' ⟨rfl, hb2⟩; have hb3 := Lib.hid (hb.out.trans (hb2.mono hb.out.size)); clear hb2; rw [hm])
        go_roundw
        case rel => exact ⟨lo, (lo + hi) / 2, rfl, by go_num, by omega, by omega, hb3, hI2⟩
        case measure => simp [intOf]; omega
    · obtain rfl : hi = lo := by omega
      have hpos : Hid (posN l x = hi) := Lib.hid (posN_is (by rw [hnH.out]; exact hin) hI.out.1 (fun t y h1 h2 => Int.not_lt.2 (hI.out.2 t y h1 h2)))
      by_cases hin2 : hi < n
      · obtain ⟨y, hy⟩ : ∃ y, l[hi]? = some y := ⟨_, List.getElem?_eq_getElem (by have := hnH.out; omega)⟩
        obtain ⟨g, rfl, hgl, c0, c1⟩ := hatH.out _ _ hy
        have d0 := (World.cell?_of_block (a := ⟨g, hi * 2, none⟩) (hb.out.block g hgl)).trans c0
        have d1 := (World.cell?_of_block (a := ⟨g, hi * 2 + 1, none⟩) (hb.out.block g hgl)).trans c1
        obtain ⟨ya, yb⟩ := y
        have hge := Int.not_lt.2 (hI.out.2 hi _ (Nat.le_refl _) hy)
        have hhas : Hid (hasN l x = (cmpI ya x == 0)) := Lib.hid (by
          unfold hasN cmpI
          rw [hpos.out, hy]
          simp only [Option.map_some, Option.some.injEq]
          rw [if_neg hge]
          by_cases e : (ya : Int) = x
          · rw [e, if_neg (by omega)]; simp
          · rw [if_pos (by dsimp only at hge; omega)]; simp [e])
        obtain ⟨m, hm⟩ : ∃ m : Int, cmpI ya x = m := ⟨_, rfl⟩
        rw [hm] at hhas
        dsimp only at d0 d1
        clear c0 c1 hy hge
        go_wp2_with (go_at_call 169; refine (cmp_any ya yb x _).mono ?_; rintro e w' ⟨rfl, hb2⟩; have hb3 := Lib.hid (hb.out.trans (hb2.mono hb.out.size)); clear hb2; rw [hm])
        go_ret2
        refine ⟨?_, hb3.out⟩
        rw [hpos.out, hhas.out]
        rfl
      · have hhas : Hid (hasN l x = false) := Lib.hid (by
          unfold hasN
          rw [List.getElem?_eq_none (by rw [hpos.out, hnH.out]; omega)]
          rfl)
        go_wp2
        go_ret2
        exact ⟨by rw [hpos.out, hhas.out]; rfl, hb.out⟩
section
variable {w : World} {q o : Nat} {T : TypeId} {cs : Array Value} {v : Value} {last : Nat} {l : List Rw}
theorem find_any (h : RegAt 218 w q o T cs v last l) (hl : l.length ≤ 1000000) (x : Int) : Calls Tryz.prog 101 #[.pointer (some ⟨q, o, none⟩), .int .i64 x] w fun e w' => e = .returned (.tuple #[.int .i64 (posN l x : Nat), .bool (hasN l x)]) ∧ Below w.heap.size w w' := by
  have c0 : w.cell? ⟨q, o, none⟩ = some v := (h.blk.cell o).trans h.c0
  have hs := Lib.hid (search_any l x v w h.row hl h.ord)
  clear h
  go_enter Tryz.func101, Tryz.ntmps101
  go_wp2_with (go_at_call 168; refine hs.out.mono ?_; rintro e w' ⟨rfl, hb⟩)
  go_ret2
  exact ⟨rfl, hb⟩
set_option maxRecDepth 100000 in
theorem get_any (h : RegAt 218 w q o T cs v last l) (hl : l.length ≤ 1000000) (x : Int) : Calls Tryz.prog 189 #[.pointer (some ⟨q, o, none⟩), .int .i64 x] w fun e w' => e = .returned (ptrV (getN l x)) ∧ Below w.heap.size w w' := by
  have c0 : w.cell? ⟨q, o, none⟩ = some v := (h.blk.cell o).trans h.c0
  have hf := Lib.hid (find_any h hl x)
  have hqlt := h.blk.lt
  cases hh : hasN l x with
  | false =>
    have hg : getN l x = none := by unfold getN; rw [hh]; rfl
    rw [hg]
    have hhH := Lib.hid hh
    clear h hh hg
    go_enter Tryz.func189, Tryz.ntmps189
    go_wp2_with (go_at_call 101; refine hf.out.mono ?_; rintro e w' ⟨rfl, hb⟩; rw [hhH.out])
    go_ret
    exact ⟨rfl, hb⟩
  | true =>
    obtain ⟨r, hr, _⟩ := hasN_yes hh
    obtain ⟨g, cap, rfl, _, h1, _⟩ := row_at rcs_len h.row hr
    have d1 : w.cell? ⟨g, posN l x * 2 + 1, none⟩ = some (.pointer (some ⟨r.2, 0, none⟩)) := h1 1 _ rfl
    have hglt := block_of_cell d1
    have hg : getN l x = some r.2 := by unfold getN; rw [hh, hr]; rfl
    have hil := (List.getElem?_eq_some_iff.1 hr).1
    rw [hg]
    have hhH := Lib.hid hh
    obtain ⟨i, hi⟩ : ∃ i, posN l x = i := ⟨_, rfl⟩
    obtain ⟨n, hn⟩ : ∃ n, l.length = n := ⟨_, rfl⟩
    rw [hi] at d1 hil
    rw [hn] at c0 hil
    have hiH := Lib.hid hi
    have k0 := Lib.hid c0
    have k1 := Lib.hid d1
    clear h hh hg hr h1 hi hn c0 d1 hl
    go_enter Tryz.func189, Tryz.ntmps189
    go_wp2_with (go_at_call 101; refine hf.out.mono ?_; rintro e w' ⟨rfl, hb⟩; rw [hhH.out, hiH.out]; have e0 : w'.cell? ⟨q, o, none⟩ = some (.slice (some ⟨g, 0, none⟩) n cap) := (hb.cell hqlt).trans k0.out; have e1 : w'.cell? ⟨g, i * 2 + 1, none⟩ = some (.pointer (some ⟨r.2, 0, none⟩)) := (hb.cell hglt).trans k1.out)
    go_ret
    exact ⟨rfl, hb⟩
set_option maxRecDepth 100000 in
set_option maxHeartbeats 4000000 in
theorem put_any (h : RegAt 218 w q o T cs v last l) (hT : T ≠ 218) (hl : last < 1000000) (hlen : l.length < 1000000) (ho : o + 1 < cs.size) (b : Nat) : Calls Tryz.prog 60 #[.pointer (some ⟨q, o, none⟩), .pointer (some ⟨b, 0, none⟩)] w fun e w' =>
    e = .returned (.int .i64 ((last : Int) + 1)) ∧ ∃ v', RegAt 218 w' q o T ((cs.setIfInBounds (o + 1) (.int .i64 ((last + 1 : Nat) : Int))).setIfInBounds o v') v' (last + 1) (l ++ [(last + 1, b)]) ∧ (∀ g, v'.ownBlock = some g → v.ownBlock = some g ∨ w.heap.size ≤ g) ∧ Frm (fun g => g = q ∨ v.ownBlock = some g) w w' := by
  obtain ⟨i0, hi0, hz0, hz1, hz2⟩ := info_parts infoR
  obtain ⟨a, c, rfl⟩ := ownsRow_slice h.row
  have c0 : w.cell? ⟨q, o, none⟩ = some (.slice a l.length c) := (h.blk.cell o).trans h.c0
  have c1 : w.cell? ⟨q, o + 1, none⟩ = some (.int .i64 last) := (h.blk.cell (o + 1)).trans h.c1
  have f0 := h.blk.frozen o
  have f1 := h.blk.frozen (o + 1)
  have hoff := row_off h.blk hT h.row
  obtain ⟨W1, hW1⟩ : ∃ W, w.setCell ⟨q, o + 1, none⟩ (.int .i64 ((last : Int) + 1)) = W := ⟨_, rfl⟩
  have hB1 : Blk W1 q T (cs.setIfInBounds (o + 1) (.int .i64 ((last : Int) + 1))) := by rw [← hW1]; exact h.blk.set_ _ _
  have hrow1 : W1.ownsRow 0 218 2 (.slice a l.length c) l.length (flat rcs l) := by
    rw [← hW1]; exact row_keep h.row (fun g hg => Below.heap_setCell _ _ _ _ (fun e => hoff (by rw [hg]; exact congrArg some e.symm)))
  have hF1 : Frm (fun g => g = q ∨ (Value.slice a l.length c).ownBlock = some g) w W1 := by rw [← hW1]; exact (Frm.refl _ _).setCell (a := ⟨q, o + 1, none⟩) (.inl (.inl rfl)) _
  have d0 : W1.cell? ⟨q, o, none⟩ = some (.slice a l.length c) := by rw [hB1.cell, Array.getElem?_setIfInBounds_ne (by omega)]; exact h.c0
  have d1 : W1.cell? ⟨q, o + 1, none⟩ = some (.int .i64 ((last : Int) + 1)) := by rw [hB1.cell, Array.getElem?_setIfInBounds_self_of_lt ho]
  have g0 := hB1.frozen o
  have g1 := hB1.frozen (o + 1)
  have hsz : W1.heap.size = w.heap.size := by rw [← hW1]; simp
  have hql : q < W1.heap.size := hB1.lt
  obtain ⟨n, hn⟩ : ∃ n, l.length = n := ⟨_, rfl⟩
  rw [hn] at d0 hrow1 hlen c0 hoff hF1
  have hrow1H := Lib.hid hrow1
  have hB1H := Lib.hid hB1
  have hF1H := Lib.hid hF1
  have hoffH := Lib.hid hoff
  have hH := Lib.hid h
  have hW1H := Lib.hid hW1
  have hnH := Lib.hid hn
  have hszH := Lib.hid hsz
  clear hrow1 hB1 hF1 hoff h hW1 hn hsz
  go_enter Tryz.func60, Tryz.ntmps60
  go_upto_region 2 with fail
  rw [hW1H.out]
  go_region_law (first
    | (refine step_append_lies _ rfl (.tmp 16) (.tmp 23) 70 rfl 0 218 i0 _ 2 16 Tryz.underlying70 hi0 hz0 hz1 hz2 rfl (by decide) (.slice a n c) n (flat rcs l) (by rfl) (hrow1H.out.alloc _) ⟨W1.heap.size, 0, none⟩ 1 1 [.int .i64 ((last : Int) + 1), .pointer (some ⟨b, 0, none⟩)] (by rfl) (by rfl) (fun j u hj => by
          rw [Addr.add_lit, Nat.zero_add]
          exact ((Blk.new W1 _ #[.int .i64 ((last : Int) + 1), .pointer (some ⟨b, 0, none⟩)]).cell j).trans (by rw [← hj, ← Array.getElem?_toList])) (by intro u hu; simp at hu; rcases hu with rfl | rfl <;> rfl) (by decide) (by unfold maxLen; omega) (by omega) (Nat.zero_le _) _ rfl ?_; intro gg cc w' hown hgr hat hlt
       have hB2 : Blk w' q T (cs.setIfInBounds (o + 1) (.int .i64 ((last : Int) + 1))) := (hgr.block q (by have := hB1H.out.lt; first | (simp only [World.size_drew, World.size_alloc]; omega) | (simp; omega)) hoffH.out).trans (hB1H.out.alloc _)
       have e0 : w'.cell? ⟨q, o, none⟩ = some (.slice a n c) := by rw [hB2.cell, Array.getElem?_setIfInBounds_ne (by omega), hH.out.c0, hnH.out]
       have e1 : w'.cell? ⟨q, o + 1, none⟩ = some (.int .i64 ((last : Int) + 1)) := by rw [hB2.cell, Array.getElem?_setIfInBounds_self_of_lt ho]
       have k0 := hB2.frozen o
       have k1 := hB2.frozen (o + 1)
       have hB2H := Lib.hid hB2
       have hownH := Lib.hid hown
       have hgrH := Lib.hid hgr
       have hatH := Lib.hid hat
       clear hB2 hown hgr hat hlt)
    | fail)
  all_goals
    have hgr2 := hgrH.out
    have hgq : gg ≠ q := fun e => by
      rcases hatH.out with h1 | h1
      · exact hoffH.out (by rw [h1, e])
      · have h2 : gg = (W1.alloc (.cells #[.int .i64 ((last : Int) + 1), .pointer (some ⟨b, 0, none⟩)] 218)).heap.size := h1
        rw [World.size_alloc] at h2
        omega
    have hlast : ((last + 1 : Nat) : Int) = (last : Int) + 1 := rfl
    have hfin : RegAt 218 (w'.setCell ⟨q, o, none⟩ (.slice (some ⟨gg, 0, none⟩) (n + 1) cc)) q o T ((cs.setIfInBounds (o + 1) (.int .i64 ((last + 1 : Nat) : Int))).setIfInBounds o (.slice (some ⟨gg, 0, none⟩) (n + 1) cc)) (.slice (some ⟨gg, 0, none⟩) (n + 1) cc) (last + 1) (l ++ [(last + 1, b)]) := by
      refine ⟨hB2H.out.set_ o _, by rw [Array.getElem?_setIfInBounds_self_of_lt (by simp; omega)], by rw [Array.getElem?_setIfInBounds_ne (by omega), Array.getElem?_setIfInBounds_self_of_lt ho], ?_, ?_, ?_, by omega⟩
      · have h3 : w'.ownsRow 0 218 2 (.slice (some ⟨gg, 0, none⟩) (n + 1) cc) (l ++ [(last + 1, b)]).length (flat rcs (l ++ [(last + 1, b)])) := by
          rw [flat_append, List.length_append, hnH.out]
          exact hownH.out
        exact row_keep h3 (fun g hg => by
          obtain rfl : gg = g := by simpa [Value.ownBlock] using hg
          exact Below.heap_setCell _ _ _ _ hgq)
      · unfold Ord
        rw [List.map_append, List.pairwise_append]
        refine ⟨hH.out.ord, List.pairwise_singleton _ _, fun x hx y hy => ?_⟩
        obtain ⟨r, hr, rfl⟩ := List.mem_map.1 hx
        obtain rfl : y = last + 1 := by simpa using hy
        have := hH.out.le r hr
        omega
      · intro r hr
        rcases List.mem_append.1 hr with hr | hr
        · have := hH.out.le r hr; omega
        · obtain rfl : r = (last + 1, b) := by simpa using hr
          exact Nat.le_refl _
    have hown2 : ∀ g, (Value.slice (some ⟨gg, 0, none⟩) (n + 1) cc).ownBlock = some g → (Value.slice a n c).ownBlock = some g ∨ w.heap.size ≤ g := fun g hg => by
      obtain rfl : gg = g := by simpa [Value.ownBlock] using hg
      rcases hatH.out with h1 | h1
      · exact .inl h1
      · right
        have h2 : gg = (W1.alloc (.cells #[.int .i64 ((last : Int) + 1), .pointer (some ⟨b, 0, none⟩)] 218)).heap.size := h1
        rw [World.size_alloc, hszH.out] at h2
        omega
    have hfr : Frm (fun g => g = q ∨ (Value.slice a n c).ownBlock = some g) w (w'.setCell ⟨q, o, none⟩ (.slice (some ⟨gg, 0, none⟩) (n + 1) cc)) := by
      have h1 := (hF1H.out.alloc (.cells #[.int .i64 ((last : Int) + 1), .pointer (some ⟨b, 0, none⟩)] 218))
      have h2 : Frm (fun g => g = q ∨ (Value.slice a n c).ownBlock = some g) w w' := Frm.grown (w1 := (W1.alloc (.cells #[.int .i64 ((last : Int) + 1), .pointer (some ⟨b, 0, none⟩)] 218)).drew) ⟨h1.os, h1.tape, h1.output, h1.size, h1.block⟩ hgr2 (fun g hg => .inl (.inr hg))
      exact h2.setCell (a := ⟨q, o, none⟩) (.inl (.inl rfl)) _
    have hfinH := Lib.hid hfin
    have hown2H := Lib.hid hown2
    have hfrH := Lib.hid hfr
    clear hfin hown2 hfr hgr2
    go_wp2_with fail
    go_ret
    exact ⟨by first | rfl | (push_cast; rfl), _, hfinH.out, by rw [hnH.out]; exact hown2H.out, by rw [hnH.out]; exact hfrH.out⟩
end
end Go.Proofs.YtmilagppbepnbaaGreat.RD
/- A register: slices.Delete of one row. Condition: the row is owned. -/
namespace Go.Proofs.YtmilagppbepnbaaGreat.RD
open Go.RowKit Go.PlainAid
set_option linter.unusedVariables false
set_option linter.unusedSimpArgs false
attribute [local go_sem] Oper.semAt_some
set_option maxHeartbeats 4000000 in
set_option maxRecDepth 100000 in
/-- slices.Delete of one element. -/
theorem delete_e (n₀ : Nat) (V : List Rw) (i : Nat) (v : Value) (w : World) (hi : i < V.length) (hown : w.ownsRow n₀ 218 2 v V.length (flat rcs V)) (hbig : V.length ≤ 100000) :
    Calls Tryz.prog 265 #[v, .int .i64 i, .int .i64 ((i : Int) + 1)] w fun e w' => ∃ gg cc, v = .slice (some ⟨gg, 0, none⟩) V.length cc ∧ e = .returned (.slice (some ⟨gg, 0, none⟩) (V.length - 1) cc) ∧ w'.ownsRow n₀ 218 2 (.slice (some ⟨gg, 0, none⟩) (V.length - 1) cc) (V.length - 1) (flat rcs (V.eraseIdx i)) ∧ w.grownBy w' (some gg) := by
  obtain ⟨i0, hi0, hz0, hz1, hz2⟩ := info_parts infoR
  obtain ⟨n, hn⟩ : ∃ n, V.length = n := ⟨_, rfl⟩
  have hk : ∀ y, (rcs y).length = 2 := rcs_len
  have h1V : ∀ l : List Rw, ∀ u ∈ flat rcs l, u.oneCell' = true := flat_one rcs_one
  obtain ⟨A, hA⟩ : ∃ A, flat rcs (V.take i) = A := ⟨_, rfl⟩
  obtain ⟨X, hX⟩ : ∃ X, flat rcs ((V.drop i).take 1) = X := ⟨_, rfl⟩
  obtain ⟨D, hDd⟩ : ∃ D, flat rcs (V.drop (i + 1)) = D := ⟨_, rfl⟩
  have hAl : A.length = i * 2 := by rw [← hA, flat_len hk, List.length_take, Nat.min_eq_left (Nat.le_of_lt hi)]
  have hXl : X.length = 2 := by rw [← hX, flat_len hk, List.length_take, List.length_drop, Nat.min_eq_left (by omega), Nat.one_mul]
  have hDl : D.length = (n - (i + 1)) * 2 := by rw [← hDd, flat_len hk, List.length_drop, hn]
  have hVf : flat rcs V = A ++ X ++ D := by rw [← hA, ← hX, ← hDd, ← flat_append, ← flat_append, List.append_assoc, ← List.drop_drop, List.take_append_drop, List.take_append_drop]
  have hE : Hid (flat rcs (V.eraseIdx i) = A ++ D) := Lib.hid (by rw [List.eraseIdx_eq_take_drop_succ, flat_append, hA, hDd])
  have hDo : ∀ u ∈ D, u.oneCell' = true := by rw [← hDd]; exact h1V _
  rw [hn] at hi hbig ⊢
  rw [hn, hVf] at hown
  clear hn hA hX hDd hVf h1V
  obtain ⟨h1, h2⟩ := hown
  rcases h2 with ⟨rfl, h0⟩ | ⟨g, cap, cur, rfl, hg0, hgb, hncap, hcap, hcs, htk⟩
  · omega
  have hB : Blk w g 218 cur := hgb
  obtain ⟨r, hr⟩ : ∃ r, cur.toList = A ++ X ++ D ++ r := ⟨cur.toList.drop (n * 2), by rw [← htk, List.take_append_drop]⟩
  have hcl : cur.toList.length = cap * 2 := by rw [Array.length_toList, hcs]
  have hrl : (n * 2) + r.length = cap * 2 := by
    rw [← hcl, hr, List.length_append, List.length_append, List.length_append, hAl, hDl, hXl]
    omega
  obtain ⟨m, rfl⟩ : ∃ m, n = i + m + 1 := ⟨n - (i + 1), by omega⟩
  have hDl' : D.length = m * 2 := by rw [hDl]; congr 1; omega
  -- the two rows
  obtain ⟨R1, hR1⟩ : ∃ R1 : Array Value, R1 = (cur.toList.take (0 + i * 2 + 0) ++ D ++ cur.toList.drop (0 + i * 2 + 0 + D.length)).toArray := ⟨_, rfl⟩
  have hR1l : R1.toList = A ++ D ++ (X ++ D ++ r).drop D.length := by
    rw [hR1]
    show cur.toList.take (0 + i * 2 + 0) ++ D ++ cur.toList.drop (0 + i * 2 + 0 + D.length) = _
    have e1 : 0 + i * 2 + 0 = A.length := by omega
    rw [e1, hr, show A ++ X ++ D ++ r = A ++ (X ++ D ++ r) by simp [List.append_assoc], List.take_left', ← List.drop_drop, List.drop_left']
    · rfl
    · rfl
  have hR1s : R1.size = cap * 2 := by
    rw [← Array.length_toList, hR1l, List.length_append, List.length_append, List.length_drop, List.length_append, List.length_append]
    omega
  obtain ⟨R2, hR2⟩ : ∃ R2 : Array Value, R2 = (R1.toList.take ((i + m) * 2 + 0) ++ [Value.int .i64 0, Value.pointer none] ++ R1.toList.drop ((i + m) * 2 + 0 + ([Value.int .i64 0, Value.pointer none] : List Value).length)).toArray := ⟨_, rfl⟩
  have hR2l : R2.toList.take ((i + m) * 2) = A ++ D := by
    rw [hR2]
    show (R1.toList.take ((i + m) * 2 + 0) ++ [Value.int .i64 0, Value.pointer none] ++ R1.toList.drop ((i + m) * 2 + 0 + ([Value.int .i64 0, Value.pointer none] : List Value).length)).take ((i + m) * 2) = _
    have e1 : (A ++ D).length = (i + m) * 2 := by rw [List.length_append, hAl, hDl']; omega
    rw [Nat.add_zero, List.append_assoc, hR1l, ← e1, List.take_left' (l₁ := A ++ D) rfl, List.take_left' rfl]
  have hR2s : R2.size = cap * 2 := by
    rw [← Array.length_toList, hR2]
    show (R1.toList.take ((i + m) * 2 + 0) ++ [Value.int .i64 0, Value.pointer none] ++ R1.toList.drop ((i + m) * 2 + 0 + ([Value.int .i64 0, Value.pointer none] : List Value).length)).length = _
    have e1 : R1.toList.length = cap * 2 := by rw [Array.length_toList, hR1s]
    rw [List.length_append, List.length_append, List.length_take, List.length_drop, e1]
    simp
    omega
  -- the append
  have hsrc0 : ∀ j u, D[j]? = some u → w.drew.cell? ((⟨g, (i + 1) * 2, none⟩ : Addr).add j) = some u := fun j u h => by
    refine Blk.mem (W := w.drew) (g := g) (t := 218) (cs := cur) hB ((i + 1) * 2) (fun j u h => ?_) j u h
    rw [← Array.getElem?_toList, hr, List.append_assoc, show (i + 1) * 2 = (A ++ X).length by rw [List.length_append]; omega, List.getElem?_append_right (by omega), Nat.add_sub_cancel_left, List.getElem?_append_left (List.getElem?_eq_some_iff.1 h).1]
    exact h
  have hspare : ∀ j, j < D.length → (w.drew.cell? ⟨g, 0 + i * 2 + j, none⟩).isSome = true ∧ w.drew.frozen? ⟨g, 0 + i * 2 + j, none⟩ = false := fun j hj => by
    refine ⟨?_, Blk.frozen (W := w.drew) (g := g) (t := 218) (cs := cur) hB _⟩
    rw [Blk.cell (W := w.drew) (g := g) (t := 218) (cs := cur) hB, Array.getElem?_eq_getElem (by rw [hcs]; omega)]
    rfl
  have hW1 : w.drew.setCells g (0 + i * 2) D = w.drew.setRow g R1 := by
    have a := run_storeCells_cells (P := Tryz.prog) g (0 + i * 2) D 0 w.drew (fun j hj => by rw [Nat.add_zero]; exact (hspare j hj).1) (fun j hj => by rw [Nat.add_zero]; exact (hspare j hj).2) hDo
    have b := run_storeCells_at Tryz.prog g (0 + i * 2) 218 D 0 cur w.drew hgb (by rw [hcs]; omega) hDo
    rw [← hR1] at b
    have e := a.symm.trans b
    rw [Nat.add_zero] at e
    exact (Result.ok.inj e).2
  have hB1 : Blk (w.drew.setRow g R1) g 218 R1 := Blk.row (W := w.drew) hB R1
  have hclr : ∀ t c, (Builtin.clear_ #[70] t #[.slice (some ⟨g, (i + m) * 2, none⟩) 1 c]).run Tryz.prog (w.drew.setRow g R1) = .ok (.tuple #[]) ((w.drew.setRow g R1).setRow g R2) := fun t c => by
    have hst := run_storeCells_at Tryz.prog g ((i + m) * 2) 218 [Value.int .i64 0, Value.pointer none] 0 R1 (w.drew.setRow g R1) hB1 (by rw [hR1s]; simp; omega) (by simp [Value.oneCell'])
    rw [← hR2] at hst
    have hzc : (Builtin.zeroCells (.agg #[.int .i64 0, .pointer none] : Value).cells 1).toList = [Value.int .i64 0, Value.pointer none] := by kernel_rfl
    simp [Builtin.clear_, run_underlying Tryz.underlying70, Tryz.zeroValue218, hzc, hst]
  have hfin : ((w.drew.setRow g R1).setRow g R2).ownsRow n₀ 218 2 (.slice (some ⟨g, 0, none⟩) (i + m) cap) (i + m) (A ++ D) :=
    ⟨by rw [List.length_append, hAl, hDl']; omega, .inr ⟨g, cap, R2, rfl, hg0, hB1.row R2, by omega, hcap, hR2s, hR2l⟩⟩
  have hgrow : w.grownBy ((w.drew.setRow g R1).setRow g R2) (some g) := ⟨rfl, rfl, rfl, by simp [World.setRow], fun k _ hk => by
    have hk' : k ≠ g := fun e => hk (by rw [e])
    exact (setRow_other _ g k R2 hk').trans (setRow_other _ g k R1 hk')⟩
  have hsrcA : Hid (∃ Ad, (if cap = i + 1 then some (⟨g, 0, none⟩ : Addr) else some ⟨g, (i + 1) * 2, none⟩) = some Ad ∧ ∀ j u, D[j]? = some u → w.drew.cell? (Ad.add j) = some u) := Lib.hid (by
    by_cases h : cap = i + 1
    · refine ⟨⟨g, 0, none⟩, by simp [h], fun j u hu => ?_⟩
      have h0 : D.length = 0 := by rw [hDl', show m = 0 by omega, Nat.zero_mul]
      rw [List.length_eq_zero_iff.1 h0] at hu
      simp at hu
    · exact ⟨_, by simp [h], hsrc0⟩)
  have hspareH := Lib.hid hspare
  have hW1H := Lib.hid hW1
  have hclrH := Lib.hid hclr
  have hfinH := Lib.hid hfin
  have hgrowH := Lib.hid hgrow
  have hDoH := Lib.hid hDo
  have hDlH : Hid (D.length = m * 2) := Lib.hid hDl'
  obtain ⟨Ad, hAd, hsrc⟩ := hsrcA.out
  have hsrcH := Lib.hid hsrc
  have c1 : (0 : Int) ≤ (i : Int) + 1 := by omega
  have c2 : (i : Int) + 1 ≤ (i : Int) + (m : Int) + 1 := by omega
  have c3 : ((i : Int) + 1).toNat = i + 1 := by omega
  have c4 : ¬ ((i : Int) = (i : Int) + 1) := by omega
  have c5 : (i : Int) ≤ (i : Int) + (m : Int) + 1 := by omega
  have c6 : i ≤ cap := by omega
  have c7 : i + 1 ≤ cap := by omega
  unfold maxLen at hcap
  have mixed : Tryz.prog.follows .mixedOrders = true := by kernel_rfl
  clear hclr hfin hgrow hDo hDl hDl' hsrc hsrc0 hsrcA hspare hW1 hR2 hR2l hR1 hR1l hR1s hR2s hB hB1 hgb hcs htk hcl hr hrl hAl hXl h1 hk
  go_enter Tryz.func265, Tryz.ntmps265
  go_wp2_with fail
  go_region_law_o (refine step_append_room rfl (.tmp 22) (.tmp 25) 70 rfl 218 i0 2 Tryz.underlying70 hi0 hz1 g 0 i cap (by simp [Act.eval, Act.put]) Ad m (cap - (i + 1)) D (by simp [Act.eval, Act.put]) hDlH.out hsrcH.out hDoH.out (by omega) hspareH.out ?_; rw [hW1H.out])
  go_wp2_with (simp only [hclrH.out, Result.andThen_ok])
  go_ret
  exact ⟨g, cap, rfl, rfl, by rw [hE.out]; exact hfinH.out, hgrowH.out⟩

section
variable {w : World} {q o : Nat} {T : TypeId} {cs : Array Value} {v : Value} {last : Nat} {l : List Rw}
set_option maxRecDepth 100000 in
set_option maxHeartbeats 4000000 in
theorem cut_any (h : RegAt 218 w q o T cs v last l) (hT : T ≠ 218) (hlen : l.length ≤ 100000) (ho : o + 1 < cs.size) (x : Int) : Calls Tryz.prog 227 #[.pointer (some ⟨q, o, none⟩), .int .i64 x] w fun e w' =>
    e = .returned (.tuple #[]) ∧ ∃ v', RegAt 218 w' q o T (cs.setIfInBounds o v') v' last (cutN l x) ∧ (∀ g, v'.ownBlock = some g → v.ownBlock = some g ∨ w.heap.size ≤ g) ∧ Frm (fun g => g = q ∨ v.ownBlock = some g) w w' := by
  have hf := Lib.hid (find_any h (by omega) x)
  cases hh : hasN l x with
  | false =>
    have hc : cutN l x = l := by unfold cutN; rw [hh]; rfl
    rw [hc]
    have hsame := set_sameC h.c0
    have hH := Lib.hid h
    have hhH := Lib.hid hh
    clear h hh hc
    go_enter Tryz.func227, Tryz.ntmps227
    go_wp2_with (go_at_call 101; refine hf.out.mono ?_; rintro e w' ⟨rfl, hb⟩; rw [hhH.out])
    go_end0
    exact ⟨rfl, v, by rw [hsame]; exact hH.out.below hb, fun g hg => .inl hg, Frm.of_below hb⟩
  | true =>
    obtain ⟨r, hr, _⟩ := hasN_yes hh
    have hil := (List.getElem?_eq_some_iff.1 hr).1
    have hc : cutN l x = l.eraseIdx (posN l x) := by unfold cutN; rw [hh]; rfl
    rw [hc]
    have hoff := row_off h.blk hT h.row
    have hH := Lib.hid h
    have hhH := Lib.hid hh
    obtain ⟨i, hi⟩ : ∃ i, posN l x = i := ⟨_, rfl⟩
    rw [hi] at hil ⊢
    have hiH := Lib.hid hi
    have hdel := Lib.hid (fun (W : World) (hb : Below w.heap.size w W) => delete_e 0 l i v W hil (hH.out.below hb).row (by omega))
    have hoffH := Lib.hid hoff
    obtain ⟨a, c, rfl⟩ := ownsRow_slice h.row
    obtain ⟨n, hn⟩ : ∃ n, l.length = n := ⟨_, rfl⟩
    have c0 : w.cell? ⟨q, o, none⟩ = some (.slice a n c) := by rw [← hn]; exact (h.blk.cell o).trans h.c0
    have k0 := Lib.hid c0
    have hnH := Lib.hid hn
    have hqlt := h.blk.lt
    rw [hn] at hdel
    clear h hh hc hr hi hoff hn c0
    go_enter Tryz.func227, Tryz.ntmps227
    go_wp2_with (first
      | (go_at_call 101; refine hf.out.mono ?_; rintro e w1 ⟨rfl, hb⟩; rw [hhH.out, hiH.out]; have hbH := Lib.hid hb; have e0 : w1.cell? ⟨q, o, none⟩ = some (.slice a n c) := (hb.cell hqlt).trans k0.out)
      | (go_at_call 265; refine (hdel.out _ hbH.out).mono ?_; rintro e w2 ⟨gg, cc, hv, rfl, hown, hgr⟩; have hB2 : Blk w2 q T cs := (hgr.block q (hH.out.below hbH.out).blk.lt (fun e => hoffH.out (by rw [hnH.out, hv]; exact e))).trans (hH.out.below hbH.out).blk; have f2 := hB2.frozen o; have e2 : (w2.cell? ⟨q, o, none⟩).isSome = true := by rw [hB2.cell, hH.out.c0]; rfl
         have e3 : w2.cell? ⟨q, o, none⟩ = some (.slice a n c) := by rw [hB2.cell, hH.out.c0, hnH.out]
         have hB2H := Lib.hid hB2; have hownH := Lib.hid hown; have hgrH := Lib.hid hgr; have hvH := Lib.hid hv; clear hB2 hown hgr hv))
    go_end0
    have hgq : gg ≠ q := fun e => hoffH.out (by rw [hnH.out, hvH.out, ← e]; rfl)
    have hlen1 : (l.eraseIdx i).length = l.length - 1 := List.length_eraseIdx_of_lt hil
    refine ⟨rfl, .slice (some ⟨gg, 0, none⟩) (l.length - 1) cc, ⟨by rw [hnH.out]; exact hB2H.out.set_ o _, by rw [Array.getElem?_setIfInBounds_self_of_lt (by omega)], by rw [Array.getElem?_setIfInBounds_ne (by omega)]; exact hH.out.c1, ?_, erase_ord hH.out.ord i, fun r hr => hH.out.le r (List.mem_of_mem_eraseIdx hr), hH.out.small⟩, fun g hg => .inl ?_, ?_⟩
    · rw [hlen1, hnH.out]
      exact row_keep hownH.out (fun g hg => by
        obtain rfl : gg = g := by simpa [Value.ownBlock] using hg
        exact Below.heap_setCell _ _ _ _ hgq)
    · obtain rfl : gg = g := by simpa [Value.ownBlock] using hg
      rw [hnH.out, hvH.out]; rfl
    · rw [hnH.out]
      exact ((Frm.of_below hbH.out).grown hgrH.out (fun g hg => .inl (.inr (by rw [hvH.out]; exact hg)))).setCell (a := ⟨q, o, none⟩) (.inl (.inl rfl)) _
end
end Go.Proofs.YtmilagppbepnbaaGreat.RD
/- A register: search, find, get, count, put, cut. Condition: it lies as stated. -/
namespace Go.Proofs.YtmilagppbepnbaaGreat.RX
open Go.RowKit Go.PlainAid
set_option linter.unusedVariables false
set_option linter.unusedSimpArgs false
attribute [local go_sem] Oper.semAt_some
theorem infoR : (Tryz.prog.info? 270).map (fun i => (i.zero, i.size, i.bytes)) = some (some (.agg #[.int .i64 0, .pointer none]), 2, 16) := by kernel_rfl
theorem cmp_any (a : Nat) (b : Nat) (x : Int) (w : World) : Calls Tryz.prog 233 #[.agg #[.int .i64 a, .pointer (some ⟨b, 0, none⟩)], .int .i64 x] w fun e w' => e = .returned (.int .i64 (cmpI a x)) ∧ Below w.heap.size w w' := by
  go_enter Tryz.func233, Tryz.ntmps233
  go_wp2_with (go_at_call 167; refine (compare_int _ _ _).mono ?_; rintro e w' ⟨rfl, rfl⟩)
  go_ret
  exact ⟨rfl, (Below.refl _ _).alloc (Nat.le_refl _) _⟩
set_option maxHeartbeats 4000000 in
set_option maxRecDepth 100000 in
theorem search_any (l : List Rw) (x : Int) (ev : Value) (w : World) (hrow : w.ownsRow 0 270 2 ev l.length (flat rcs l)) (hlen : l.length ≤ 1000000) (hs : Ord l) :
    Calls Tryz.prog 232 #[ev, .int .i64 x, .func (.func 233) #[] #[]] w fun e w' => e = .returned (.tuple #[.int .i64 (posN l x : Nat), .bool (hasN l x)]) ∧ Below w.heap.size w w' := by
  obtain ⟨n, hn⟩ : ∃ n, l.length = n := ⟨_, rfl⟩
  obtain ⟨a, c, rfl⟩ := ownsRow_slice hrow
  have hat : ∀ (i : Nat) (y : Rw), l[i]? = some y → ∃ g, a = some ⟨g, 0, none⟩ ∧ g < w.heap.size ∧ w.cell? ⟨g, i * 2, none⟩ = some (.int .i64 y.1) ∧ w.cell? ⟨g, i * 2 + 1, none⟩ = some (.pointer (some ⟨y.2, 0, none⟩)) := fun i y hy => by
    obtain ⟨g, cap, e, _, h1, _⟩ := row_at rcs_len hrow hy
    obtain ⟨rfl, rfl⟩ : a = some ⟨g, 0, none⟩ ∧ c = cap := by simpa using e
    have c0 := h1 0 _ rfl
    exact ⟨g, rfl, block_of_cell c0, c0, h1 1 _ rfl⟩
  have hatH := Lib.hid hat
  have hsH := Lib.hid hs
  have hnH := Lib.hid hn
  rw [hn] at hlen ⊢
  clear hat hrow hs hn
  go_enter Tryz.func232, Tryz.ntmps232
  go_wp2
  go_loopw [9, 10] (fun s9 s10 wr => ∃ lo hi : Nat, s9 = .int .i64 lo ∧ s10 = .int .i64 hi ∧ lo ≤ hi ∧ hi ≤ n ∧ Hid (Below w.heap.size w wr) ∧ Hid ((∀ t y, t < lo → l[t]? = some y → (y.1 : Int) < x) ∧ (∀ t y, hi ≤ t → l[t]? = some y → x ≤ (y.1 : Int)))) (fun s9 s10 _ => (intOf s10).toNat - (intOf s9).toNat)
  case atStart => exact ⟨0, n, rfl, rfl, Nat.zero_le _, Nat.le_refl _, Lib.hid (Below.refl _ _), Lib.hid ⟨fun t y h => absurd h (Nat.not_lt_zero _), fun t y h1 h2 => by have := (List.getElem?_eq_some_iff.1 h2).1; have := hnH.out; omega⟩⟩
  case round =>
    obtain ⟨lo, hi, rfl, rfl, hlh, hin, hb, hI⟩ := hrel
    by_cases hlt : lo < hi
    · obtain ⟨y, hy⟩ : ∃ y, l[(lo + hi) / 2]? = some y := ⟨_, List.getElem?_eq_getElem (by have := hnH.out; omega)⟩
      obtain ⟨g, rfl, hgl, c0, c1⟩ := hatH.out _ _ hy
      have d0 := (World.cell?_of_block (a := ⟨g, (lo + hi) / 2 * 2, none⟩) (hb.out.block g hgl)).trans c0
      have d1 := (World.cell?_of_block (a := ⟨g, (lo + hi) / 2 * 2 + 1, none⟩) (hb.out.block g hgl)).trans c1
      have hyH := Lib.hid hy
      obtain ⟨ya, yb⟩ := y
      dsimp only at d0 d1
      clear c0 c1 hy
      by_cases hc : (ya : Int) < x
      · have hI2 : Hid ((∀ t y, t < (lo + hi) / 2 + 1 → l[t]? = some y → (y.1 : Int) < x) ∧ (∀ t y, hi ≤ t → l[t]? = some y → x ≤ (y.1 : Int))) := Lib.hid ⟨fun t y h1 h2 => by
          by_cases e : t = (lo + hi) / 2
          · rw [e, hyH.out] at h2; cases h2; exact hc
          · have := ord_lt hsH.out h2 hyH.out (by omega); simp at this; omega, hI.out.2⟩
        have hm : cmpI ya x = -1 := by unfold cmpI; rw [if_pos hc]
        go_wp2_with (go_at_call 233; refine (cmp_any ya yb x _).mono ?_; rintro e w' ⟨rfl, hb2⟩; have hb3 := Lib.hid (hb.out.trans (hb2.mono hb.out.size)); clear hb2; rw [hm])
        go_roundw
        case rel => exact ⟨(lo + hi) / 2 + 1, hi, by go_num, rfl, by omega, hin, hb3, hI2⟩
        case measure => simp [intOf]; omega
      · have hI2 : Hid ((∀ t y, t < lo → l[t]? = some y → (y.1 : Int) < x) ∧ (∀ t y, (lo + hi) / 2 ≤ t → l[t]? = some y → x ≤ (y.1 : Int))) := Lib.hid ⟨hI.out.1, fun t y h1 h2 => by
          by_cases e : t = (lo + hi) / 2
          · rw [e, hyH.out] at h2; cases h2; exact Int.not_lt.1 hc
          · have := ord_lt hsH.out hyH.out h2 (by omega); simp at this; omega⟩
        obtain ⟨m, hm, hm2⟩ : ∃ m : Int, cmpI ya x = m ∧ decide (m < 0) = false := ⟨_, rfl, by unfold cmpI; rw [if_neg hc]; split <;> rfl⟩
        go_wp2_with (go_at_call 233; refine (cmp_any ya yb x _).mono ?_; rintro e w' ⟨rfl, hb2⟩; have hb3 := Lib.hid (hb.out.trans (hb2.mono hb.out.size)); clear hb2; rw [hm])
        go_roundw
        case rel => exact ⟨lo, (lo + hi) / 2, rfl, by go_num, by omega, by omega, hb3, hI2⟩
        case measure => simp [intOf]; omega
    · obtain rfl : hi = lo := by omega
      have hpos : Hid (posN l x = hi) := Lib.hid (posN_is (by rw [hnH.out]; exact hin) hI.out.1 (fun t y h1 h2 => Int.not_lt.2 (hI.out.2 t y h1 h2)))
      by_cases hin2 : hi < n
      · obtain ⟨y, hy⟩ : ∃ y, l[hi]? = some y := ⟨_, List.getElem?_eq_getElem (by have := hnH.out; omega)⟩
        obtain ⟨g, rfl, hgl, c0, c1⟩ := hatH.out _ _ hy
        have d0 := (World.cell?_of_block (a := ⟨g, hi * 2, none⟩) (hb.out.block g hgl)).trans c0
        have d1 := (World.cell?_of_block (a := ⟨g, hi * 2 + 1, none⟩) (hb.out.block g hgl)).trans c1
        obtain ⟨ya, yb⟩ := y
        have hge := Int.not_lt.2 (hI.out.2 hi _ (Nat.le_refl _) hy)
        have hhas : Hid (hasN l x = (cmpI ya x == 0)) := Lib.hid (by
          unfold hasN cmpI
          rw [hpos.out, hy]
          simp only [Option.map_some, Option.some.injEq]
          rw [if_neg hge]
          by_cases e : (ya : Int) = x
          · rw [e, if_neg (by omega)]; simp
          · rw [if_pos (by dsimp only at hge; omega)]; simp [e])
        obtain ⟨m, hm⟩ : ∃ m : Int, cmpI ya x = m := ⟨_, rfl⟩
        rw [hm] at hhas
        dsimp only at d0 d1
        clear c0 c1 hy hge
        go_wp2_with (go_at_call 233; refine (cmp_any ya yb x _).mono ?_; rintro e w' ⟨rfl, hb2⟩; have hb3 := Lib.hid (hb.out.trans (hb2.mono hb.out.size)); clear hb2; rw [hm])
        go_ret2
        refine ⟨?_, hb3.out⟩
        rw [hpos.out, hhas.out]
        rfl
      · have hhas : Hid (hasN l x = false) := Lib.hid (by
          unfold hasN
          rw [List.getElem?_eq_none (by rw [hpos.out, hnH.out]; omega)]
          rfl)
        go_wp2
        go_ret2
        exact ⟨by rw [hpos.out, hhas.out]; rfl, hb.out⟩
section
variable {w : World} {q o : Nat} {T : TypeId} {cs : Array Value} {v : Value} {last : Nat} {l : List Rw}
theorem find_any (h : RegAt 270 w q o T cs v last l) (hl : l.length ≤ 1000000) (x : Int) : Calls Tryz.prog 164 #[.pointer (some ⟨q, o, none⟩), .int .i64 x] w fun e w' => e = .returned (.tuple #[.int .i64 (posN l x : Nat), .bool (hasN l x)]) ∧ Below w.heap.size w w' := by
  have c0 : w.cell? ⟨q, o, none⟩ = some v := (h.blk.cell o).trans h.c0
  have hs := Lib.hid (search_any l x v w h.row hl h.ord)
  clear h
  go_enter Tryz.func164, Tryz.ntmps164
  go_wp2_with (go_at_call 232; refine hs.out.mono ?_; rintro e w' ⟨rfl, hb⟩)
  go_ret2
  exact ⟨rfl, hb⟩
set_option maxRecDepth 100000 in
set_option maxHeartbeats 4000000 in
theorem put_any (h : RegAt 270 w q o T cs v last l) (hT : T ≠ 270) (hl : last < 1000000) (hlen : l.length < 1000000) (ho : o + 1 < cs.size) (b : Nat) : Calls Tryz.prog 202 #[.pointer (some ⟨q, o, none⟩), .pointer (some ⟨b, 0, none⟩)] w fun e w' =>
    e = .returned (.int .i64 ((last : Int) + 1)) ∧ ∃ v', RegAt 270 w' q o T ((cs.setIfInBounds (o + 1) (.int .i64 ((last + 1 : Nat) : Int))).setIfInBounds o v') v' (last + 1) (l ++ [(last + 1, b)]) ∧ (∀ g, v'.ownBlock = some g → v.ownBlock = some g ∨ w.heap.size ≤ g) ∧ Frm (fun g => g = q ∨ v.ownBlock = some g) w w' := by
  obtain ⟨i0, hi0, hz0, hz1, hz2⟩ := info_parts infoR
  obtain ⟨a, c, rfl⟩ := ownsRow_slice h.row
  have c0 : w.cell? ⟨q, o, none⟩ = some (.slice a l.length c) := (h.blk.cell o).trans h.c0
  have c1 : w.cell? ⟨q, o + 1, none⟩ = some (.int .i64 last) := (h.blk.cell (o + 1)).trans h.c1
  have f0 := h.blk.frozen o
  have f1 := h.blk.frozen (o + 1)
  have hoff := row_off h.blk hT h.row
  obtain ⟨W1, hW1⟩ : ∃ W, w.setCell ⟨q, o + 1, none⟩ (.int .i64 ((last : Int) + 1)) = W := ⟨_, rfl⟩
  have hB1 : Blk W1 q T (cs.setIfInBounds (o + 1) (.int .i64 ((last : Int) + 1))) := by rw [← hW1]; exact h.blk.set_ _ _
  have hrow1 : W1.ownsRow 0 270 2 (.slice a l.length c) l.length (flat rcs l) := by
    rw [← hW1]; exact row_keep h.row (fun g hg => Below.heap_setCell _ _ _ _ (fun e => hoff (by rw [hg]; exact congrArg some e.symm)))
  have hF1 : Frm (fun g => g = q ∨ (Value.slice a l.length c).ownBlock = some g) w W1 := by rw [← hW1]; exact (Frm.refl _ _).setCell (a := ⟨q, o + 1, none⟩) (.inl (.inl rfl)) _
  have d0 : W1.cell? ⟨q, o, none⟩ = some (.slice a l.length c) := by rw [hB1.cell, Array.getElem?_setIfInBounds_ne (by omega)]; exact h.c0
  have d1 : W1.cell? ⟨q, o + 1, none⟩ = some (.int .i64 ((last : Int) + 1)) := by rw [hB1.cell, Array.getElem?_setIfInBounds_self_of_lt ho]
  have g0 := hB1.frozen o
  have g1 := hB1.frozen (o + 1)
  have hsz : W1.heap.size = w.heap.size := by rw [← hW1]; simp
  have hql : q < W1.heap.size := hB1.lt
  obtain ⟨n, hn⟩ : ∃ n, l.length = n := ⟨_, rfl⟩
  rw [hn] at d0 hrow1 hlen c0 hoff hF1
  have hrow1H := Lib.hid hrow1
  have hB1H := Lib.hid hB1
  have hF1H := Lib.hid hF1
  have hoffH := Lib.hid hoff
  have hH := Lib.hid h
  have hW1H := Lib.hid hW1
  have hnH := Lib.hid hn
  have hszH := Lib.hid hsz
  clear hrow1 hB1 hF1 hoff h hW1 hn hsz
  go_enter Tryz.func202, Tryz.ntmps202
  go_upto_region 2 with fail
  rw [hW1H.out]
  go_region_law (first
    | (refine step_append_lies _ rfl (.tmp 16) (.tmp 23) 67 rfl 0 270 i0 _ 2 16 Tryz.underlying67 hi0 hz0 hz1 hz2 rfl (by decide) (.slice a n c) n (flat rcs l) (by rfl) (hrow1H.out.alloc _) ⟨W1.heap.size, 0, none⟩ 1 1 [.int .i64 ((last : Int) + 1), .pointer (some ⟨b, 0, none⟩)] (by rfl) (by rfl) (fun j u hj => by
          rw [Addr.add_lit, Nat.zero_add]
          exact ((Blk.new W1 _ #[.int .i64 ((last : Int) + 1), .pointer (some ⟨b, 0, none⟩)]).cell j).trans (by rw [← hj, ← Array.getElem?_toList])) (by intro u hu; simp at hu; rcases hu with rfl | rfl <;> rfl) (by decide) (by unfold maxLen; omega) (by omega) (Nat.zero_le _) _ rfl ?_; intro gg cc w' hown hgr hat hlt
       have hB2 : Blk w' q T (cs.setIfInBounds (o + 1) (.int .i64 ((last : Int) + 1))) := (hgr.block q (by have := hB1H.out.lt; first | (simp only [World.size_drew, World.size_alloc]; omega) | (simp; omega)) hoffH.out).trans (hB1H.out.alloc _)
       have e0 : w'.cell? ⟨q, o, none⟩ = some (.slice a n c) := by rw [hB2.cell, Array.getElem?_setIfInBounds_ne (by omega), hH.out.c0, hnH.out]
       have e1 : w'.cell? ⟨q, o + 1, none⟩ = some (.int .i64 ((last : Int) + 1)) := by rw [hB2.cell, Array.getElem?_setIfInBounds_self_of_lt ho]
       have k0 := hB2.frozen o
       have k1 := hB2.frozen (o + 1)
       have hB2H := Lib.hid hB2
       have hownH := Lib.hid hown
       have hgrH := Lib.hid hgr
       have hatH := Lib.hid hat
       clear hB2 hown hgr hat hlt)
    | fail)
  all_goals
    have hgr2 := hgrH.out
    have hgq : gg ≠ q := fun e => by
      rcases hatH.out with h1 | h1
      · exact hoffH.out (by rw [h1, e])
      · have h2 : gg = (W1.alloc (.cells #[.int .i64 ((last : Int) + 1), .pointer (some ⟨b, 0, none⟩)] 270)).heap.size := h1
        rw [World.size_alloc] at h2
        omega
    have hlast : ((last + 1 : Nat) : Int) = (last : Int) + 1 := rfl
    have hfin : RegAt 270 (w'.setCell ⟨q, o, none⟩ (.slice (some ⟨gg, 0, none⟩) (n + 1) cc)) q o T ((cs.setIfInBounds (o + 1) (.int .i64 ((last + 1 : Nat) : Int))).setIfInBounds o (.slice (some ⟨gg, 0, none⟩) (n + 1) cc)) (.slice (some ⟨gg, 0, none⟩) (n + 1) cc) (last + 1) (l ++ [(last + 1, b)]) := by
      refine ⟨hB2H.out.set_ o _, by rw [Array.getElem?_setIfInBounds_self_of_lt (by simp; omega)], by rw [Array.getElem?_setIfInBounds_ne (by omega), Array.getElem?_setIfInBounds_self_of_lt ho], ?_, ?_, ?_, by omega⟩
      · have h3 : w'.ownsRow 0 270 2 (.slice (some ⟨gg, 0, none⟩) (n + 1) cc) (l ++ [(last + 1, b)]).length (flat rcs (l ++ [(last + 1, b)])) := by
          rw [flat_append, List.length_append, hnH.out]
          exact hownH.out
        exact row_keep h3 (fun g hg => by
          obtain rfl : gg = g := by simpa [Value.ownBlock] using hg
          exact Below.heap_setCell _ _ _ _ hgq)
      · unfold Ord
        rw [List.map_append, List.pairwise_append]
        refine ⟨hH.out.ord, List.pairwise_singleton _ _, fun x hx y hy => ?_⟩
        obtain ⟨r, hr, rfl⟩ := List.mem_map.1 hx
        obtain rfl : y = last + 1 := by simpa using hy
        have := hH.out.le r hr
        omega
      · intro r hr
        rcases List.mem_append.1 hr with hr | hr
        · have := hH.out.le r hr; omega
        · obtain rfl : r = (last + 1, b) := by simpa using hr
          exact Nat.le_refl _
    have hown2 : ∀ g, (Value.slice (some ⟨gg, 0, none⟩) (n + 1) cc).ownBlock = some g → (Value.slice a n c).ownBlock = some g ∨ w.heap.size ≤ g := fun g hg => by
      obtain rfl : gg = g := by simpa [Value.ownBlock] using hg
      rcases hatH.out with h1 | h1
      · exact .inl h1
      · right
        have h2 : gg = (W1.alloc (.cells #[.int .i64 ((last : Int) + 1), .pointer (some ⟨b, 0, none⟩)] 270)).heap.size := h1
        rw [World.size_alloc, hszH.out] at h2
        omega
    have hfr : Frm (fun g => g = q ∨ (Value.slice a n c).ownBlock = some g) w (w'.setCell ⟨q, o, none⟩ (.slice (some ⟨gg, 0, none⟩) (n + 1) cc)) := by
      have h1 := (hF1H.out.alloc (.cells #[.int .i64 ((last : Int) + 1), .pointer (some ⟨b, 0, none⟩)] 270))
      have h2 : Frm (fun g => g = q ∨ (Value.slice a n c).ownBlock = some g) w w' := Frm.grown (w1 := (W1.alloc (.cells #[.int .i64 ((last : Int) + 1), .pointer (some ⟨b, 0, none⟩)] 270)).drew) ⟨h1.os, h1.tape, h1.output, h1.size, h1.block⟩ hgr2 (fun g hg => .inl (.inr hg))
      exact h2.setCell (a := ⟨q, o, none⟩) (.inl (.inl rfl)) _
    have hfinH := Lib.hid hfin
    have hown2H := Lib.hid hown2
    have hfrH := Lib.hid hfr
    clear hfin hown2 hfr hgr2
    go_wp2_with fail
    go_ret
    exact ⟨by first | rfl | (push_cast; rfl), _, hfinH.out, by rw [hnH.out]; exact hown2H.out, by rw [hnH.out]; exact hfrH.out⟩
end
end Go.Proofs.YtmilagppbepnbaaGreat.RX
/- A register: slices.Delete of one row. Condition: the row is owned. -/
namespace Go.Proofs.YtmilagppbepnbaaGreat.RX
open Go.RowKit Go.PlainAid
set_option linter.unusedVariables false
set_option linter.unusedSimpArgs false
attribute [local go_sem] Oper.semAt_some
set_option maxHeartbeats 4000000 in
set_option maxRecDepth 100000 in
/-- slices.Delete of one element. -/
theorem delete_e (n₀ : Nat) (V : List Rw) (i : Nat) (v : Value) (w : World) (hi : i < V.length) (hown : w.ownsRow n₀ 270 2 v V.length (flat rcs V)) (hbig : V.length ≤ 100000) :
    Calls Tryz.prog 266 #[v, .int .i64 i, .int .i64 ((i : Int) + 1)] w fun e w' => ∃ gg cc, v = .slice (some ⟨gg, 0, none⟩) V.length cc ∧ e = .returned (.slice (some ⟨gg, 0, none⟩) (V.length - 1) cc) ∧ w'.ownsRow n₀ 270 2 (.slice (some ⟨gg, 0, none⟩) (V.length - 1) cc) (V.length - 1) (flat rcs (V.eraseIdx i)) ∧ w.grownBy w' (some gg) := by
  obtain ⟨i0, hi0, hz0, hz1, hz2⟩ := info_parts infoR
  obtain ⟨n, hn⟩ : ∃ n, V.length = n := ⟨_, rfl⟩
  have hk : ∀ y, (rcs y).length = 2 := rcs_len
  have h1V : ∀ l : List Rw, ∀ u ∈ flat rcs l, u.oneCell' = true := flat_one rcs_one
  obtain ⟨A, hA⟩ : ∃ A, flat rcs (V.take i) = A := ⟨_, rfl⟩
  obtain ⟨X, hX⟩ : ∃ X, flat rcs ((V.drop i).take 1) = X := ⟨_, rfl⟩
  obtain ⟨D, hDd⟩ : ∃ D, flat rcs (V.drop (i + 1)) = D := ⟨_, rfl⟩
  have hAl : A.length = i * 2 := by rw [← hA, flat_len hk, List.length_take, Nat.min_eq_left (Nat.le_of_lt hi)]
  have hXl : X.length = 2 := by rw [← hX, flat_len hk, List.length_take, List.length_drop, Nat.min_eq_left (by omega), Nat.one_mul]
  have hDl : D.length = (n - (i + 1)) * 2 := by rw [← hDd, flat_len hk, List.length_drop, hn]
  have hVf : flat rcs V = A ++ X ++ D := by rw [← hA, ← hX, ← hDd, ← flat_append, ← flat_append, List.append_assoc, ← List.drop_drop, List.take_append_drop, List.take_append_drop]
  have hE : Hid (flat rcs (V.eraseIdx i) = A ++ D) := Lib.hid (by rw [List.eraseIdx_eq_take_drop_succ, flat_append, hA, hDd])
  have hDo : ∀ u ∈ D, u.oneCell' = true := by rw [← hDd]; exact h1V _
  rw [hn] at hi hbig ⊢
  rw [hn, hVf] at hown
  clear hn hA hX hDd hVf h1V
  obtain ⟨h1, h2⟩ := hown
  rcases h2 with ⟨rfl, h0⟩ | ⟨g, cap, cur, rfl, hg0, hgb, hncap, hcap, hcs, htk⟩
  · omega
  have hB : Blk w g 270 cur := hgb
  obtain ⟨r, hr⟩ : ∃ r, cur.toList = A ++ X ++ D ++ r := ⟨cur.toList.drop (n * 2), by rw [← htk, List.take_append_drop]⟩
  have hcl : cur.toList.length = cap * 2 := by rw [Array.length_toList, hcs]
  have hrl : (n * 2) + r.length = cap * 2 := by
    rw [← hcl, hr, List.length_append, List.length_append, List.length_append, hAl, hDl, hXl]
    omega
  obtain ⟨m, rfl⟩ : ∃ m, n = i + m + 1 := ⟨n - (i + 1), by omega⟩
  have hDl' : D.length = m * 2 := by rw [hDl]; congr 1; omega
  -- the two rows
  obtain ⟨R1, hR1⟩ : ∃ R1 : Array Value, R1 = (cur.toList.take (0 + i * 2 + 0) ++ D ++ cur.toList.drop (0 + i * 2 + 0 + D.length)).toArray := ⟨_, rfl⟩
  have hR1l : R1.toList = A ++ D ++ (X ++ D ++ r).drop D.length := by
    rw [hR1]
    show cur.toList.take (0 + i * 2 + 0) ++ D ++ cur.toList.drop (0 + i * 2 + 0 + D.length) = _
    have e1 : 0 + i * 2 + 0 = A.length := by omega
    rw [e1, hr, show A ++ X ++ D ++ r = A ++ (X ++ D ++ r) by simp [List.append_assoc], List.take_left', ← List.drop_drop, List.drop_left']
    · rfl
    · rfl
  have hR1s : R1.size = cap * 2 := by
    rw [← Array.length_toList, hR1l, List.length_append, List.length_append, List.length_drop, List.length_append, List.length_append]
    omega
  obtain ⟨R2, hR2⟩ : ∃ R2 : Array Value, R2 = (R1.toList.take ((i + m) * 2 + 0) ++ [Value.int .i64 0, Value.pointer none] ++ R1.toList.drop ((i + m) * 2 + 0 + ([Value.int .i64 0, Value.pointer none] : List Value).length)).toArray := ⟨_, rfl⟩
  have hR2l : R2.toList.take ((i + m) * 2) = A ++ D := by
    rw [hR2]
    show (R1.toList.take ((i + m) * 2 + 0) ++ [Value.int .i64 0, Value.pointer none] ++ R1.toList.drop ((i + m) * 2 + 0 + ([Value.int .i64 0, Value.pointer none] : List Value).length)).take ((i + m) * 2) = _
    have e1 : (A ++ D).length = (i + m) * 2 := by rw [List.length_append, hAl, hDl']; omega
    rw [Nat.add_zero, List.append_assoc, hR1l, ← e1, List.take_left' (l₁ := A ++ D) rfl, List.take_left' rfl]
  have hR2s : R2.size = cap * 2 := by
    rw [← Array.length_toList, hR2]
    show (R1.toList.take ((i + m) * 2 + 0) ++ [Value.int .i64 0, Value.pointer none] ++ R1.toList.drop ((i + m) * 2 + 0 + ([Value.int .i64 0, Value.pointer none] : List Value).length)).length = _
    have e1 : R1.toList.length = cap * 2 := by rw [Array.length_toList, hR1s]
    rw [List.length_append, List.length_append, List.length_take, List.length_drop, e1]
    simp
    omega
  -- the append
  have hsrc0 : ∀ j u, D[j]? = some u → w.drew.cell? ((⟨g, (i + 1) * 2, none⟩ : Addr).add j) = some u := fun j u h => by
    refine Blk.mem (W := w.drew) (g := g) (t := 270) (cs := cur) hB ((i + 1) * 2) (fun j u h => ?_) j u h
    rw [← Array.getElem?_toList, hr, List.append_assoc, show (i + 1) * 2 = (A ++ X).length by rw [List.length_append]; omega, List.getElem?_append_right (by omega), Nat.add_sub_cancel_left, List.getElem?_append_left (List.getElem?_eq_some_iff.1 h).1]
    exact h
  have hspare : ∀ j, j < D.length → (w.drew.cell? ⟨g, 0 + i * 2 + j, none⟩).isSome = true ∧ w.drew.frozen? ⟨g, 0 + i * 2 + j, none⟩ = false := fun j hj => by
    refine ⟨?_, Blk.frozen (W := w.drew) (g := g) (t := 270) (cs := cur) hB _⟩
    rw [Blk.cell (W := w.drew) (g := g) (t := 270) (cs := cur) hB, Array.getElem?_eq_getElem (by rw [hcs]; omega)]
    rfl
  have hW1 : w.drew.setCells g (0 + i * 2) D = w.drew.setRow g R1 := by
    have a := run_storeCells_cells (P := Tryz.prog) g (0 + i * 2) D 0 w.drew (fun j hj => by rw [Nat.add_zero]; exact (hspare j hj).1) (fun j hj => by rw [Nat.add_zero]; exact (hspare j hj).2) hDo
    have b := run_storeCells_at Tryz.prog g (0 + i * 2) 270 D 0 cur w.drew hgb (by rw [hcs]; omega) hDo
    rw [← hR1] at b
    have e := a.symm.trans b
    rw [Nat.add_zero] at e
    exact (Result.ok.inj e).2
  have hB1 : Blk (w.drew.setRow g R1) g 270 R1 := Blk.row (W := w.drew) hB R1
  have hclr : ∀ t c, (Builtin.clear_ #[67] t #[.slice (some ⟨g, (i + m) * 2, none⟩) 1 c]).run Tryz.prog (w.drew.setRow g R1) = .ok (.tuple #[]) ((w.drew.setRow g R1).setRow g R2) := fun t c => by
    have hst := run_storeCells_at Tryz.prog g ((i + m) * 2) 270 [Value.int .i64 0, Value.pointer none] 0 R1 (w.drew.setRow g R1) hB1 (by rw [hR1s]; simp; omega) (by simp [Value.oneCell'])
    rw [← hR2] at hst
    have hzc : (Builtin.zeroCells (.agg #[.int .i64 0, .pointer none] : Value).cells 1).toList = [Value.int .i64 0, Value.pointer none] := by kernel_rfl
    simp [Builtin.clear_, run_underlying Tryz.underlying67, Tryz.zeroValue270, hzc, hst]
  have hfin : ((w.drew.setRow g R1).setRow g R2).ownsRow n₀ 270 2 (.slice (some ⟨g, 0, none⟩) (i + m) cap) (i + m) (A ++ D) :=
    ⟨by rw [List.length_append, hAl, hDl']; omega, .inr ⟨g, cap, R2, rfl, hg0, hB1.row R2, by omega, hcap, hR2s, hR2l⟩⟩
  have hgrow : w.grownBy ((w.drew.setRow g R1).setRow g R2) (some g) := ⟨rfl, rfl, rfl, by simp [World.setRow], fun k _ hk => by
    have hk' : k ≠ g := fun e => hk (by rw [e])
    exact (setRow_other _ g k R2 hk').trans (setRow_other _ g k R1 hk')⟩
  have hsrcA : Hid (∃ Ad, (if cap = i + 1 then some (⟨g, 0, none⟩ : Addr) else some ⟨g, (i + 1) * 2, none⟩) = some Ad ∧ ∀ j u, D[j]? = some u → w.drew.cell? (Ad.add j) = some u) := Lib.hid (by
    by_cases h : cap = i + 1
    · refine ⟨⟨g, 0, none⟩, by simp [h], fun j u hu => ?_⟩
      have h0 : D.length = 0 := by rw [hDl', show m = 0 by omega, Nat.zero_mul]
      rw [List.length_eq_zero_iff.1 h0] at hu
      simp at hu
    · exact ⟨_, by simp [h], hsrc0⟩)
  have hspareH := Lib.hid hspare
  have hW1H := Lib.hid hW1
  have hclrH := Lib.hid hclr
  have hfinH := Lib.hid hfin
  have hgrowH := Lib.hid hgrow
  have hDoH := Lib.hid hDo
  have hDlH : Hid (D.length = m * 2) := Lib.hid hDl'
  obtain ⟨Ad, hAd, hsrc⟩ := hsrcA.out
  have hsrcH := Lib.hid hsrc
  have c1 : (0 : Int) ≤ (i : Int) + 1 := by omega
  have c2 : (i : Int) + 1 ≤ (i : Int) + (m : Int) + 1 := by omega
  have c3 : ((i : Int) + 1).toNat = i + 1 := by omega
  have c4 : ¬ ((i : Int) = (i : Int) + 1) := by omega
  have c5 : (i : Int) ≤ (i : Int) + (m : Int) + 1 := by omega
  have c6 : i ≤ cap := by omega
  have c7 : i + 1 ≤ cap := by omega
  unfold maxLen at hcap
  have mixed : Tryz.prog.follows .mixedOrders = true := by kernel_rfl
  clear hclr hfin hgrow hDo hDl hDl' hsrc hsrc0 hsrcA hspare hW1 hR2 hR2l hR1 hR1l hR1s hR2s hB hB1 hgb hcs htk hcl hr hrl hAl hXl h1 hk
  go_enter Tryz.func266, Tryz.ntmps266
  go_wp2_with fail
  go_region_law_o (refine step_append_room rfl (.tmp 22) (.tmp 25) 67 rfl 270 i0 2 Tryz.underlying67 hi0 hz1 g 0 i cap (by simp [Act.eval, Act.put]) Ad m (cap - (i + 1)) D (by simp [Act.eval, Act.put]) hDlH.out hsrcH.out hDoH.out (by omega) hspareH.out ?_; rw [hW1H.out])
  go_wp2_with (simp only [hclrH.out, Result.andThen_ok])
  go_ret
  exact ⟨g, cap, rfl, rfl, by rw [hE.out]; exact hfinH.out, hgrowH.out⟩

section
variable {w : World} {q o : Nat} {T : TypeId} {cs : Array Value} {v : Value} {last : Nat} {l : List Rw}
set_option maxRecDepth 100000 in
set_option maxHeartbeats 4000000 in
theorem cut_any (h : RegAt 270 w q o T cs v last l) (hT : T ≠ 270) (hlen : l.length ≤ 100000) (ho : o + 1 < cs.size) (x : Int) : Calls Tryz.prog 230 #[.pointer (some ⟨q, o, none⟩), .int .i64 x] w fun e w' =>
    e = .returned (.tuple #[]) ∧ ∃ v', RegAt 270 w' q o T (cs.setIfInBounds o v') v' last (cutN l x) ∧ (∀ g, v'.ownBlock = some g → v.ownBlock = some g ∨ w.heap.size ≤ g) ∧ Frm (fun g => g = q ∨ v.ownBlock = some g) w w' := by
  have hf := Lib.hid (find_any h (by omega) x)
  cases hh : hasN l x with
  | false =>
    have hc : cutN l x = l := by unfold cutN; rw [hh]; rfl
    rw [hc]
    have hsame := set_sameC h.c0
    have hH := Lib.hid h
    have hhH := Lib.hid hh
    clear h hh hc
    go_enter Tryz.func230, Tryz.ntmps230
    go_wp2_with (go_at_call 164; refine hf.out.mono ?_; rintro e w' ⟨rfl, hb⟩; rw [hhH.out])
    go_end0
    exact ⟨rfl, v, by rw [hsame]; exact hH.out.below hb, fun g hg => .inl hg, Frm.of_below hb⟩
  | true =>
    obtain ⟨r, hr, _⟩ := hasN_yes hh
    have hil := (List.getElem?_eq_some_iff.1 hr).1
    have hc : cutN l x = l.eraseIdx (posN l x) := by unfold cutN; rw [hh]; rfl
    rw [hc]
    have hoff := row_off h.blk hT h.row
    have hH := Lib.hid h
    have hhH := Lib.hid hh
    obtain ⟨i, hi⟩ : ∃ i, posN l x = i := ⟨_, rfl⟩
    rw [hi] at hil ⊢
    have hiH := Lib.hid hi
    have hdel := Lib.hid (fun (W : World) (hb : Below w.heap.size w W) => delete_e 0 l i v W hil (hH.out.below hb).row (by omega))
    have hoffH := Lib.hid hoff
    obtain ⟨a, c, rfl⟩ := ownsRow_slice h.row
    obtain ⟨n, hn⟩ : ∃ n, l.length = n := ⟨_, rfl⟩
    have c0 : w.cell? ⟨q, o, none⟩ = some (.slice a n c) := by rw [← hn]; exact (h.blk.cell o).trans h.c0
    have k0 := Lib.hid c0
    have hnH := Lib.hid hn
    have hqlt := h.blk.lt
    rw [hn] at hdel
    clear h hh hc hr hi hoff hn c0
    go_enter Tryz.func230, Tryz.ntmps230
    go_wp2_with (first
      | (go_at_call 164; refine hf.out.mono ?_; rintro e w1 ⟨rfl, hb⟩; rw [hhH.out, hiH.out]; have hbH := Lib.hid hb; have e0 : w1.cell? ⟨q, o, none⟩ = some (.slice a n c) := (hb.cell hqlt).trans k0.out)
      | (go_at_call 266; refine (hdel.out _ hbH.out).mono ?_; rintro e w2 ⟨gg, cc, hv, rfl, hown, hgr⟩; have hB2 : Blk w2 q T cs := (hgr.block q (hH.out.below hbH.out).blk.lt (fun e => hoffH.out (by rw [hnH.out, hv]; exact e))).trans (hH.out.below hbH.out).blk; have f2 := hB2.frozen o; have e2 : (w2.cell? ⟨q, o, none⟩).isSome = true := by rw [hB2.cell, hH.out.c0]; rfl
         have e3 : w2.cell? ⟨q, o, none⟩ = some (.slice a n c) := by rw [hB2.cell, hH.out.c0, hnH.out]
         have hB2H := Lib.hid hB2; have hownH := Lib.hid hown; have hgrH := Lib.hid hgr; have hvH := Lib.hid hv; clear hB2 hown hgr hv))
    go_end0
    have hgq : gg ≠ q := fun e => hoffH.out (by rw [hnH.out, hvH.out, ← e]; rfl)
    have hlen1 : (l.eraseIdx i).length = l.length - 1 := List.length_eraseIdx_of_lt hil
    refine ⟨rfl, .slice (some ⟨gg, 0, none⟩) (l.length - 1) cc, ⟨by rw [hnH.out]; exact hB2H.out.set_ o _, by rw [Array.getElem?_setIfInBounds_self_of_lt (by omega)], by rw [Array.getElem?_setIfInBounds_ne (by omega)]; exact hH.out.c1, ?_, erase_ord hH.out.ord i, fun r hr => hH.out.le r (List.mem_of_mem_eraseIdx hr), hH.out.small⟩, fun g hg => .inl ?_, ?_⟩
    · rw [hlen1, hnH.out]
      exact row_keep hownH.out (fun g hg => by
        obtain rfl : gg = g := by simpa [Value.ownBlock] using hg
        exact Below.heap_setCell _ _ _ _ hgq)
    · obtain rfl : gg = g := by simpa [Value.ownBlock] using hg
      rw [hnH.out, hvH.out]; rfl
    · rw [hnH.out]
      exact ((Frm.of_below hbH.out).grown hgrH.out (fun g hg => .inl (.inr (by rw [hvH.out]; exact hg)))).setCell (a := ⟨q, o, none⟩) (.inl (.inl rfl)) _
end
end Go.Proofs.YtmilagppbepnbaaGreat.RX

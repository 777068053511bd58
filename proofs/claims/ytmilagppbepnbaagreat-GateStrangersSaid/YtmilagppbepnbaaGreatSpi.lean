/- The kernel as plain data, and in memory: parts that lie apart. No condition. -/
import Derived.Test.YtmilagppbepnbaaGreatSpd
import Derived.Test.YtmilagppbepnbaaGreatSpg
import Derived.Test.YtmilagppbepnbaaGreatSph
import Derived.Deep.RegionLaw
import Derived.Laws.IdiomCopy
import Derived.Deep.RegionHeld3
namespace Go.Proofs.YtmilagppbepnbaaGreat
open Go.RowKit Go.PlainAid
set_option linter.unusedVariables false
set_option linter.unusedSimpArgs false
/-- A description; the pipe that it is an end of. -/
structure Dsc where
  kind : Nat
  n : Nat
  at_ : Nat
  refs : Int
  flags : Int
  pipe : Option Nat
  text : ByteArray
/-- A process. -/
structure Prc where
  num : Nat
  parent : Nat
  tab : Nat → Pp.Sl
  dir : Nat
  mask : Int
  ended : Bool
  status : Int
structure Ker where
  fs : Fs
  pipes : List (Nat × Pp.St)
  lastX : Nat
  descs : List (Nat × Dsc)
  lastD : Nat
  procs : List (Nat × Prc)
  lastR : Nat
  typed : ByteArray
  closed : Bool
  out1 : List UInt8
  out2 : List UInt8
/-! ### Things under numbers -/
section
variable {X : Type}
def ask (l : List (Nat × X)) (n : Nat) : Option X := match l with
  | [] => none
  | p :: t => if p.1 = n then some p.2 else ask t n
def put1 (l : List (Nat × X)) (n : Nat) (x : X) : List (Nat × X) := l.map (fun p => if p.1 = n then (n, x) else p)
def cut1 (l : List (Nat × X)) (n : Nat) : List (Nat × X) := l.filter (fun p => p.1 ≠ n)
def OrdK (l : List (Nat × X)) : Prop := (l.map (·.1)).Pairwise (· < ·)
def rowsOf (l : List (Nat × X)) (b : Nat → Nat) : List Rw := l.map (fun p => (p.1, b p.1))
theorem rows_len (l : List (Nat × X)) (b : Nat → Nat) : (rowsOf l b).length = l.length := List.length_map ..
theorem rows_nums (l : List (Nat × X)) (b : Nat → Nat) : (rowsOf l b).map (·.1) = l.map (·.1) := by unfold rowsOf; rw [List.map_map]; rfl
theorem rows_ord {l : List (Nat × X)} (h : OrdK l) (b : Nat → Nat) : Ord (rowsOf l b) := by unfold Ord; rw [rows_nums]; exact h
theorem ask_mem {l : List (Nat × X)} {n : Nat} {x : X} (h : ask l n = some x) : (n, x) ∈ l := by
  induction l with
  | nil => cases h
  | cons p t ih =>
    unfold ask at h
    split at h
    · rename_i e
      cases h
      rw [← e]
      exact List.mem_cons_self ..
    · exact List.mem_cons_of_mem _ (ih h)
theorem ask_of {l : List (Nat × X)} (ho : OrdK l) {n : Nat} {x : X} (h : (n, x) ∈ l) : ask l n = some x := by
  induction l with
  | nil => cases h
  | cons p t ih =>
    unfold OrdK at ho
    rw [List.map_cons, List.pairwise_cons] at ho
    unfold ask
    rcases List.mem_cons.1 h with e | e
    · subst e; rw [if_pos rfl]
    · have := ho.1 n (List.mem_map.2 ⟨(n, x), e, rfl⟩)
      rw [if_neg (by omega)]
      exact ih ho.2 e
theorem ask_none {l : List (Nat × X)} {n : Nat} : ask l n = none ↔ ∀ p ∈ l, p.1 ≠ n := by
  induction l with
  | nil => simp [ask]
  | cons p t ih =>
    unfold ask
    by_cases e : p.1 = n
    · simp [e]
    · rw [if_neg e, ih]
      simp [e]
theorem ask_put {l : List (Nat × X)} {n : Nat} {x y : X} (h : ask l n = some y) (m : Nat) : ask (put1 l n x) m = if m = n then some x else ask l m := by
  induction l with
  | nil => cases h
  | cons p t ih =>
    unfold put1 at *
    rw [List.map_cons]
    by_cases e : p.1 = n
    · rw [if_pos e]
      by_cases em : m = n
      · subst em; unfold ask; simp
      · rw [if_neg em]
        have ht : ask (t.map fun p => if p.1 = n then (n, x) else p) m = ask t m := by
          clear ih h
          induction t with
          | nil => rfl
          | cons r t ih =>
            rw [List.map_cons]
            by_cases er : r.1 = n
            · rw [if_pos er]; unfold ask; rw [if_neg (fun k => em k.symm), if_neg (fun k => em (k.symm.trans er)), ih]
            · rw [if_neg er]; unfold ask; rw [ih]
        unfold ask
        rw [if_neg (fun k => em k.symm), if_neg (fun k => em (k.symm.trans e)), ht]
    · rw [if_neg e]
      unfold ask at h ⊢
      rw [if_neg e] at h
      rw [ih h]
      by_cases em : m = n
      · subst em; rw [if_neg e, if_pos rfl, if_pos rfl]
      · rw [if_neg em, if_neg em]
theorem put1_nums (l : List (Nat × X)) (n : Nat) (x : X) : (put1 l n x).map (·.1) = l.map (·.1) := by
  unfold put1
  rw [List.map_map]
  apply List.map_congr_left
  intro p _
  simp only [Function.comp]
  split
  · rename_i e; exact e.symm
  · rfl
theorem put1_ord {l : List (Nat × X)} (h : OrdK l) (n : Nat) (x : X) : OrdK (put1 l n x) := by unfold OrdK; rw [put1_nums]; exact h
theorem put1_rows (l : List (Nat × X)) (n : Nat) (x : X) (b : Nat → Nat) : rowsOf (put1 l n x) b = rowsOf l b := by
  unfold rowsOf put1
  rw [List.map_map]
  apply List.map_congr_left
  intro p _
  simp only [Function.comp]
  split
  · rename_i e; rw [e]
  · rfl
theorem ask_cut {l : List (Nat × X)} {n m : Nat} : ask (cut1 l n) m = if m = n then none else ask l m := by
  induction l with
  | nil => simp [cut1, ask]
  | cons p t ih =>
    unfold cut1 at *
    by_cases e : p.1 = n
    · rw [List.filter_cons_of_neg (by simp [e]), ih]
      by_cases em : m = n
      · rw [if_pos em, if_pos em]
      · rw [if_neg em, if_neg em]
        conv => rhs; unfold ask
        rw [if_neg (fun k => em (k.symm.trans e))]
    · rw [List.filter_cons_of_pos (by simp [e])]
      unfold ask
      by_cases em : m = n
      · subst em
        rw [if_neg e, ih, if_pos rfl, if_pos rfl]
      · rw [ih, if_neg em, if_neg em]
theorem cut1_ord {l : List (Nat × X)} (h : OrdK l) (n : Nat) : OrdK (cut1 l n) := by
  unfold OrdK cut1 at *
  exact List.Pairwise.sublist (List.filter_sublist.map _) h
theorem rows_get {l : List (Nat × X)} (h : OrdK l) (b : Nat → Nat) (n : Nat) : getN (rowsOf l b) (n : Int) = (ask l n).map (fun _ => b n) := by
  cases ha : ask l n with
  | none =>
    have := ask_none.1 ha
    unfold getN
    rw [hasN_no (rows_ord h b) (fun r hr => by
      obtain ⟨p, hp, rfl⟩ := List.mem_map.1 hr
      have := this p hp
      intro e
      exact this (Int.ofNat.inj e))]
    rfl
  | some x =>
    have hm := ask_mem ha
    obtain ⟨i, hi⟩ := List.mem_iff_getElem?.1 hm
    have hri : (rowsOf l b)[i]? = some (n, b n) := by unfold rowsOf; rw [List.getElem?_map, hi]; rfl
    obtain ⟨h1, h2⟩ := hasN_of (rows_ord h b) hri
    unfold getN
    rw [h2, h1, hri]
    rfl
theorem rows_get_neg {l : List (Nat × X)} (h : OrdK l) (b : Nat → Nat) {x : Int} (hx : x < 0) : getN (rowsOf l b) x = none := by
  unfold getN
  rw [hasN_no (rows_ord h b) (fun r hr e => by omega)]
  rfl
theorem rows_cut {l : List (Nat × X)} (h : OrdK l) (b : Nat → Nat) (n : Nat) : cutN (rowsOf l b) (n : Int) = rowsOf (cut1 l n) b := by
  cases ha : ask l n with
  | none =>
    have hno := ask_none.1 ha
    unfold cutN
    rw [hasN_no (rows_ord h b) (fun r hr => by
      obtain ⟨p, hp, rfl⟩ := List.mem_map.1 hr
      have := hno p hp
      intro e
      exact this (Int.ofNat.inj e))]
    have : cut1 l n = l := by unfold cut1; exact List.filter_eq_self.2 (fun p hp => by simpa using hno p hp)
    rw [this]; rfl
  | some x =>
    have hm := ask_mem ha
    obtain ⟨i, hi⟩ := List.mem_iff_getElem?.1 hm
    have hri : (rowsOf l b)[i]? = some (n, b n) := by unfold rowsOf; rw [List.getElem?_map, hi]; rfl
    obtain ⟨h1, h2⟩ := hasN_of (rows_ord h b) hri
    unfold cutN
    rw [h2, if_pos rfl, h1]
    have key : ∀ (l : List (Nat × X)) (i : Nat), OrdK l → l[i]? = some (n, x) → l.eraseIdx i = cut1 l n := by
      intro l
      induction l with
      | nil => intro i _ hi; simp at hi
      | cons p t ih =>
        intro i ho hi
        unfold OrdK at ho
        rw [List.map_cons, List.pairwise_cons] at ho
        cases i with
        | zero =>
          obtain rfl : p = (n, x) := by simpa using hi
          unfold cut1
          rw [List.filter_cons_of_neg (by simp), List.eraseIdx_cons_zero]
          exact (List.filter_eq_self.2 (fun q hq => by
            have := ho.1 q.1 (List.mem_map.2 ⟨q, hq, rfl⟩)
            simp at this ⊢; omega)).symm
        | succ i =>
          have hi' : t[i]? = some (n, x) := by simpa using hi
          have := ho.1 n (List.mem_map.2 ⟨(n, x), List.mem_of_getElem? hi', rfl⟩)
          unfold cut1 at ih ⊢
          rw [List.filter_cons_of_pos (by simp; omega), List.eraseIdx_cons_succ, ih i ho.2 hi']
    have h3 := key l i h hi
    rw [← h3]
    unfold rowsOf
    have he : ∀ (l : List (Nat × X)) (i : Nat), (l.map (fun p => (p.1, b p.1))).eraseIdx i = (l.eraseIdx i).map (fun p => (p.1, b p.1)) := by
      intro l
      induction l with
      | nil => intro i; simp
      | cons p t ih => intro i; cases i <;> simp [ih]
    exact he l i
end
end Go.Proofs.YtmilagppbepnbaaGreat
/- The kernel in memory. No condition. -/
namespace Go.Proofs.YtmilagppbepnbaaGreat
open Go.RowKit Go.PlainAid
set_option linter.unusedVariables false
set_option linter.unusedSimpArgs false
inductive Ix where
  | own
  | fs
  | pipe (n : Nat)
  | desc (n : Nat)
  | proc (n : Nat)
deriving DecidableEq
/-- Where things stand: pipes, descriptions, processes by their numbers; the tree. -/
structure Mp where
  bx : Nat → Nat
  bd : Nat → Nat
  br : Nat → Nat
  bt : Nat → Nat
  fp : Nat
def dcells (bx : Nat → Nat) (D : Dsc) : List Value := [.int .i64 D.kind, .int .i64 D.n, .int .i64 D.at_, .int .i64 D.refs, .int .i64 D.flags, ptrV (D.pipe.map bx), .string D.text]
def DscAt (bx : Nat → Nat) (w : World) (S : Nat → Prop) (b : Nat) (D : Dsc) : Prop := Blk w b 91 (dcells bx D).toArray ∧ S b
def pcells (P : Prc) (tb : Nat) : List Value := [.int .i64 P.num, .int .i64 P.parent, .pointer (some ⟨tb, 0, none⟩), .int .i64 P.dir, .int .i64 P.mask, .bool P.ended, .int .i64 P.status]
def PrcAt (w : World) (S : Nat → Prop) (b tb : Nat) (P : Prc) : Prop := Blk w b 84 (pcells P tb).toArray ∧ Pp.TabAt w tb P.tab ∧ S b ∧ S tb ∧ tb ≠ b
def PipAt (w : World) (S : Nat → Prop) (b : Nat) (s : Pp.St) : Prop := ∃ rb, Pp.PipeAt w b rb s ∧ S b ∧ S rb
def FilAt (w : World) (S : Nat → Prop) (p : Nat) (f : Fs) : Prop := ∃ B, FsIs w B p f ∧ ∀ g, All B g → S g
def kcells (K : Ker) (fp : Nat) (xv dv rv o1 o2 : Value) : Array Value := #[.pointer (some ⟨fp, 0, none⟩), xv, .int .i64 K.lastX, dv, .int .i64 K.lastD, rv, .int .i64 K.lastR, .string K.typed, .bool K.closed, o1, o2]
/-- The kernel's own blocks. -/
structure OwnAt (w : World) (S : Nat → Prop) (q : Nat) (K : Ker) (M : Mp) (xv dv rv o1 o2 : Value) : Prop where
  blk : Blk w q 79 (kcells K M.fp xv dv rv o1 o2)
  rx : w.ownsRow 0 270 2 xv K.pipes.length (flat rcs (rowsOf K.pipes M.bx))
  rd : w.ownsRow 0 218 2 dv K.descs.length (flat rcs (rowsOf K.descs M.bd))
  rr : w.ownsRow 0 166 2 rv K.procs.length (flat rcs (rowsOf K.procs M.br))
  p1 : w.ownsRow 0 5 1 o1 K.out1.length (Lib.byteCells K.out1)
  p2 : w.ownsRow 0 5 1 o2 K.out2.length (Lib.byteCells K.out2)
  sq : S q
  sx : ∀ g, xv.ownBlock = some g → S g
  sd : ∀ g, dv.ownBlock = some g → S g
  sr : ∀ g, rv.ownBlock = some g → S g
  s1 : ∀ g, o1.ownBlock = some g → S g
  s2 : ∀ g, o2.ownBlock = some g → S g
  ne : ∀ g, o1.ownBlock = some g → o2.ownBlock ≠ some g
def OwnIs (w : World) (S : Nat → Prop) (q : Nat) (K : Ker) (M : Mp) : Prop := ∃ xv dv rv o1 o2, OwnAt w S q K M xv dv rv o1 o2
/-- Each part. -/
def Part (K : Ker) (M : Mp) (q : Nat) (w : World) (S : Nat → Prop) : Ix → Prop
  | .own => OwnIs w S q K M
  | .fs => FilAt w S M.fp K.fs
  | .pipe n => ∀ s, ask K.pipes n = some s → PipAt w S (M.bx n) s
  | .desc n => ∀ D, ask K.descs n = some D → DscAt M.bx w S (M.bd n) D
  | .proc n => ∀ P, ask K.procs n = some P → PrcAt w S (M.br n) (M.bt n) P
/-- The numbers of a kernel. -/
structure Nmb (K : Ker) : Prop where
  ox : OrdK K.pipes
  od : OrdK K.descs
  or_ : OrdK K.procs
  lx : ∀ p ∈ K.pipes, 1 ≤ p.1 ∧ p.1 ≤ K.lastX
  ld : ∀ p ∈ K.descs, 1 ≤ p.1 ∧ p.1 ≤ K.lastD
  lr : ∀ p ∈ K.procs, 1 ≤ p.1 ∧ p.1 ≤ K.lastR
  bx : K.lastX ≤ 90000
  bd : K.lastD ≤ 90000
  br : K.lastR ≤ 90000
structure KerIs (w : World) (B : Ix → Nat → Prop) (q : Nat) (K : Ker) (M : Mp) : Prop where
  part : ∀ i, Part K M q w (B i) i
  apart : ∀ i j g, B i g → B j g → i = j
  lt : ∀ i g, B i g → g < w.heap.size
  num : Nmb K
def AllX (B : Ix → Nat → Prop) (g : Nat) : Prop := ∃ i, B i g
theorem DscAt.keep {bx : Nat → Nat} {w w' : World} {S : Nat → Prop} {b : Nat} {D : Dsc} (h : DscAt bx w S b D) (hb : ∀ g, S g → w'.heap[g]? = w.heap[g]?) : DscAt bx w' S b D := ⟨h.1.keep (hb b h.2), h.2⟩
theorem PrcAt.keep {w w' : World} {S : Nat → Prop} {b tb : Nat} {P : Prc} (h : PrcAt w S b tb P) (hb : ∀ g, S g → w'.heap[g]? = w.heap[g]?) : PrcAt w' S b tb P := by
  obtain ⟨h1, h2, h3, h4, h5⟩ := h
  exact ⟨h1.keep (hb b h3), h2.keep (hb tb h4), h3, h4, h5⟩
theorem PipAt.keep {w w' : World} {S : Nat → Prop} {b : Nat} {s : Pp.St} (h : PipAt w S b s) (hb : ∀ g, S g → w'.heap[g]? = w.heap[g]?) : PipAt w' S b s := by
  obtain ⟨rb, h1, h3, h4⟩ := h
  exact ⟨rb, h1.keep ⟨hb b h3, hb rb h4⟩, h3, h4⟩
theorem FilAt.keep {w w' : World} {S : Nat → Prop} {p : Nat} {f : Fs} (h : FilAt w S p f) (hs : w.heap.size ≤ w'.heap.size) (hb : ∀ g, S g → w'.heap[g]? = w.heap[g]?) : FilAt w' S p f := by
  obtain ⟨B, h1, h2⟩ := h
  exact ⟨B, h1.keep hs (fun i g hg => hb g (h2 g ⟨i, hg⟩)), h2⟩
theorem OwnAt.keep {w w' : World} {S : Nat → Prop} {q : Nat} {K : Ker} {M : Mp} {xv dv rv o1 o2 : Value} (h : OwnAt w S q K M xv dv rv o1 o2) (hb : ∀ g, S g → w'.heap[g]? = w.heap[g]?) : OwnAt w' S q K M xv dv rv o1 o2 :=
  ⟨h.blk.keep (hb q h.sq), row_keep h.rx (fun g hg => hb g (h.sx g hg)), row_keep h.rd (fun g hg => hb g (h.sd g hg)), row_keep h.rr (fun g hg => hb g (h.sr g hg)), row_keep h.p1 (fun g hg => hb g (h.s1 g hg)), row_keep h.p2 (fun g hg => hb g (h.s2 g hg)), h.sq, h.sx, h.sd, h.sr, h.s1, h.s2, h.ne⟩
theorem Part.keep {K : Ker} {M : Mp} {q : Nat} {w w' : World} {S : Nat → Prop} {i : Ix} (h : Part K M q w S i) (hs : w.heap.size ≤ w'.heap.size) (hb : ∀ g, S g → w'.heap[g]? = w.heap[g]?) : Part K M q w' S i := by
  cases i with
  | own => obtain ⟨xv, dv, rv, o1, o2, h⟩ := h; exact ⟨xv, dv, rv, o1, o2, h.keep hb⟩
  | fs => exact FilAt.keep h hs hb
  | pipe n => exact fun s hk => (h s hk).keep hb
  | desc n => exact fun s hk => (h s hk).keep hb
  | proc n => exact fun s hk => (h s hk).keep hb
section
variable {w w' : World} {B : Ix → Nat → Prop} {q : Nat} {K K' : Ker} {M M' : Mp}
theorem KerIs.keep (h : KerIs w B q K M) (hs : w.heap.size ≤ w'.heap.size) (hb : ∀ i g, B i g → w'.heap[g]? = w.heap[g]?) : KerIs w' B q K M :=
  ⟨fun i => (h.part i).keep hs (fun g hg => hb i g hg), h.apart, fun i g hg => Nat.lt_of_lt_of_le (h.lt i g hg) hs, h.num⟩
theorem KerIs.below (h : KerIs w B q K M) (hb : Below w.heap.size w w') : KerIs w' B q K M := h.keep hb.size (fun i g hg => hb.block g (h.lt i g hg))
theorem KerIs.frm {O : Nat → Prop} (h : KerIs w B q K M) (hF : Frm O w w') (hO : ∀ i g, B i g → ¬ O g) : KerIs w' B q K M := h.keep hF.size (fun i g hg => hF.block g (h.lt i g hg) (hO i g hg))
def upX (B : Ix → Nat → Prop) (i : Ix) (S : Nat → Prop) : Ix → Nat → Prop := fun j g => if j = i then S g else B j g
theorem upX_self (B : Ix → Nat → Prop) (i : Ix) (S : Nat → Prop) : upX B i S i = S := by funext g; unfold upX; rw [if_pos rfl]
theorem upX_ne (B : Ix → Nat → Prop) {i j : Ix} (h : j ≠ i) (S : Nat → Prop) : upX B i S j = B j := by funext g; unfold upX; rw [if_neg h]
/-- One part turns; what the others read stays. -/
theorem KerIs.turn (h : KerIs w B q K M) (i : Ix) {S : Nat → Prop} (hS : ∀ g, S g → B i g ∨ w.heap.size ≤ g) (hl : ∀ g, S g → g < w'.heap.size) (hF : Frm (B i) w w') (h0 : Part K' M' q w' S i)
    (ho : ∀ j, j ≠ i → Part K M q w' (B j) j → Part K' M' q w' (B j) j) (hn : Nmb K') : KerIs w' (upX B i S) q K' M' := by
  have hb : ∀ j, j ≠ i → ∀ g, B j g → w'.heap[g]? = w.heap[g]? := fun j hj g hg => hF.block g (h.lt j g hg) (fun h' => hj (h.apart _ _ _ hg h'))
  refine ⟨fun j => ?_, fun a b g ha hb' => ?_, fun a g ha => ?_, hn⟩
  · by_cases e : j = i
    · subst e; rw [upX_self]; exact h0
    · rw [upX_ne B e]; exact ho j e ((h.part j).keep hF.size (hb j e))
  · unfold upX at ha hb'
    split at ha
    · split at hb'
      · rename_i e1 e2; rw [e1, e2]
      · rename_i e1 e2
        rcases hS g ha with h1 | h1
        · exact absurd (h.apart _ _ _ hb' h1) e2
        · have := h.lt _ _ hb'; omega
    · split at hb'
      · rename_i e1 e2
        rcases hS g hb' with h1 | h1
        · exact absurd (h.apart _ _ _ ha h1) e1
        · have := h.lt _ _ ha; omega
      · exact h.apart _ _ _ ha hb'
  · unfold upX at ha
    split at ha
    · exact hl g ha
    · exact Nat.lt_of_lt_of_le (h.lt a g ha) hF.size
/-- What stood under numbers stands there. -/
structure MExt (K : Ker) (M M' : Mp) : Prop where
  bx : ∀ n, n ≤ K.lastX → M'.bx n = M.bx n
  bd : ∀ n, n ≤ K.lastD → M'.bd n = M.bd n
  br : ∀ n, n ≤ K.lastR → M'.br n = M.br n
  bt : ∀ n, n ≤ K.lastR → M'.bt n = M.bt n
  fp : M'.fp = M.fp
theorem MExt.refl (K : Ker) (M : Mp) : MExt K M M := ⟨fun _ _ => rfl, fun _ _ => rfl, fun _ _ => rfl, fun _ _ => rfl, rfl⟩
theorem MExt.trans {K K' : Ker} {M M' M'' : Mp} (h : MExt K M M') (h' : MExt K' M' M'') (h1 : K.lastX ≤ K'.lastX) (h2 : K.lastD ≤ K'.lastD) (h3 : K.lastR ≤ K'.lastR) : MExt K M M'' :=
  ⟨fun n hn => (h'.bx n (by omega)).trans (h.bx n hn), fun n hn => (h'.bd n (by omega)).trans (h.bd n hn), fun n hn => (h'.br n (by omega)).trans (h.br n hn), fun n hn => (h'.bt n (by omega)).trans (h.bt n hn), h'.fp.trans h.fp⟩
/-- What a step leaves: O: the blocks that were the kernel's. -/
def KP (O : Nat → Prop) (w0 : World) (K0 : Ker) (M0 : Mp) (w : World) (q : Nat) (K : Ker) : Prop :=
  ∃ B M, KerIs w B q K M ∧ MExt K0 M0 M ∧ K0.lastX ≤ K.lastX ∧ K0.lastD ≤ K.lastD ∧ K0.lastR ≤ K.lastR ∧ (∀ g, AllX B g → O g ∨ w0.heap.size ≤ g) ∧ Frm O w0 w
theorem KP.of (h : KerIs w B q K M) (hb : Below w.heap.size w w') : KP (AllX B) w K M w' q K := ⟨B, M, h.below hb, MExt.refl _ _, Nat.le_refl _, Nat.le_refl _, Nat.le_refl _, fun _ hg => .inl hg, Frm.of_below hb⟩
theorem KP.trans {O : Nat → Prop} {w0 w1 w2 : World} {K0 K1 K2 : Ker} {M0 M1 : Mp} (hO : ∀ g, AllX B g → O g ∨ w0.heap.size ≤ g) (hF : Frm O w0 w1) (hE : MExt K0 M0 M1) (h1 : K0.lastX ≤ K1.lastX) (h2 : K0.lastD ≤ K1.lastD) (h3 : K0.lastR ≤ K1.lastR) (h : KP (AllX B) w1 K1 M1 w2 q K2) : KP O w0 K0 M0 w2 q K2 := by
  obtain ⟨B', M', k1, k2, k3, k4, k5, k6, k7⟩ := h
  exact ⟨B', M', k1, hE.trans k2 h1 h2 h3, by omega, by omega, by omega, fun g hg => (k6 g hg).elim (hO g) (fun h => .inr (Nat.le_trans hF.size h)), hF.trans hO k7⟩
/-- Of one step: a part turned. -/
theorem KerIs.step (h : KerIs w B q K M) (i : Ix) {S : Nat → Prop} (hS : ∀ g, S g → B i g ∨ w.heap.size ≤ g) (hl : ∀ g, S g → g < w'.heap.size) (hF : Frm (B i) w w') (h0 : Part K' M' q w' S i)
    (ho : ∀ j, j ≠ i → Part K M q w' (B j) j → Part K' M' q w' (B j) j) (hn : Nmb K') (hE : MExt K M M') (h1 : K.lastX ≤ K'.lastX) (h2 : K.lastD ≤ K'.lastD) (h3 : K.lastR ≤ K'.lastR) : KP (AllX B) w K M w' q K' :=
  ⟨upX B i S, M', h.turn i hS hl hF h0 ho hn, hE, h1, h2, h3, fun g ⟨j, hj⟩ => by
    unfold upX at hj
    split at hj
    · exact (hS g hj).elim (fun h => .inl ⟨i, h⟩) .inr
    · exact .inl ⟨j, hj⟩, hF.mono (fun g hg => ⟨i, hg⟩)⟩
end
end Go.Proofs.YtmilagppbepnbaaGreat
/- The kernel: what reads it: process, named, mayRead, mayWrite, readable, writable. Condition: it lies as stated. -/
namespace Go.Proofs.YtmilagppbepnbaaGreat.Kn
open Go.RowKit Go.PlainAid
set_option linter.unusedVariables false
set_option linter.unusedSimpArgs false
attribute [local go_sem] Oper.semAt_some
def liveM (K : Ker) (pid : Int) : Option Nat := if 0 ≤ pid then (match ask K.procs pid.toNat with | some P => if P.ended then none else some pid.toNat | none => none) else none
def tabM (f : Nat → Pp.Sl) (fd : Int) : Int × Int := if 0 ≤ fd ∧ fd < 32 then ((f fd.toNat).val, (f fd.toNat).err) else (0, 9)
def askI {X : Type} (l : List (Nat × X)) (x : Int) : Option Nat := if 0 ≤ x then (ask l x.toNat).map (fun _ => x.toNat) else none
def namedN (K : Ker) (P : Prc) (fd : Int) : Option Nat := if (tabM P.tab fd).2 ≠ 0 then none else askI K.descs (tabM P.tab fd).1
def mayRd (D : Dsc) : Bool := if D.kind = 1 then D.n == 0 else if D.kind = 2 then bits .and .i64 D.flags 1 != 0 else D.kind == 3 || D.kind == 5
def mayWr (D : Dsc) : Bool := if D.kind = 1 then D.n != 0 else if D.kind = 2 then bits .and .i64 D.flags 2 != 0 else D.kind == 4
theorem rows_askI {X : Type} {l : List (Nat × X)} (h : OrdK l) (b : Nat → Nat) (x : Int) : getN (rowsOf l b) x = (askI l x).map b := by
  unfold askI
  by_cases hx : 0 ≤ x
  · obtain ⟨n, rfl⟩ : ∃ n : Nat, x = n := ⟨x.toNat, by omega⟩
    rw [if_pos hx, rows_get h, Int.toNat_natCast]
    cases ask l n <;> rfl
  · rw [if_neg hx, rows_get_neg h b (by omega)]
    rfl
section
variable {w : World} {B : Ix → Nat → Prop} {q : Nat} {K : Ker} {M : Mp}
theorem _root_.Go.Proofs.YtmilagppbepnbaaGreat.KerIs.own (h : KerIs w B q K M) : ∃ xv dv rv o1 o2, OwnAt w (B .own) q K M xv dv rv o1 o2 := h.part .own
theorem _root_.Go.Proofs.YtmilagppbepnbaaGreat.KerIs.blkK (h : KerIs w B q K M) : ∃ xv dv rv o1 o2, Blk w q 79 (kcells K M.fp xv dv rv o1 o2) := by
  obtain ⟨xv, dv, rv, o1, o2, h⟩ := h.own
  exact ⟨xv, dv, rv, o1, o2, h.blk⟩
theorem regR {S : Nat → Prop} {xv dv rv o1 o2 : Value} (h : OwnAt w S q K M xv dv rv o1 o2) (hn : Nmb K) : RegAt 166 w q 5 79 (kcells K M.fp xv dv rv o1 o2) rv K.lastR (rowsOf K.procs M.br) :=
  ⟨h.blk, rfl, rfl, by rw [rows_len]; exact h.rr, rows_ord hn.or_ _, fun r hr => by
    obtain ⟨p, hp, rfl⟩ := List.mem_map.1 hr
    exact (hn.lr p hp).2, by have := hn.br; omega⟩
theorem regD {S : Nat → Prop} {xv dv rv o1 o2 : Value} (h : OwnAt w S q K M xv dv rv o1 o2) (hn : Nmb K) : RegAt 218 w q 3 79 (kcells K M.fp xv dv rv o1 o2) dv K.lastD (rowsOf K.descs M.bd) :=
  ⟨h.blk, rfl, rfl, by rw [rows_len]; exact h.rd, rows_ord hn.od _, fun r hr => by
    obtain ⟨p, hp, rfl⟩ := List.mem_map.1 hr
    exact (hn.ld p hp).2, by have := hn.bd; omega⟩
theorem regX {S : Nat → Prop} {xv dv rv o1 o2 : Value} (h : OwnAt w S q K M xv dv rv o1 o2) (hn : Nmb K) : RegAt 270 w q 1 79 (kcells K M.fp xv dv rv o1 o2) xv K.lastX (rowsOf K.pipes M.bx) :=
  ⟨h.blk, rfl, rfl, by rw [rows_len]; exact h.rx, rows_ord hn.ox _, fun r hr => by
    obtain ⟨p, hp, rfl⟩ := List.mem_map.1 hr
    exact (hn.lx p hp).2, by have := hn.bx; omega⟩
theorem len_num {X : Type} {l : List (Nat × X)} {last : Nat} (b : Nat → Nat) (ho : OrdK l) (h : ∀ p ∈ l, 1 ≤ p.1 ∧ p.1 ≤ last) : (rowsOf l b).length ≤ last :=
  ord_len (rows_ord ho b) (fun r hr => by obtain ⟨p, hp, rfl⟩ := List.mem_map.1 hr; exact (h p hp).2) (fun r hr => by obtain ⟨p, hp, rfl⟩ := List.mem_map.1 hr; exact (h p hp).1)
theorem lenR (hn : Nmb K) (b : Nat → Nat) : (rowsOf K.procs b).length ≤ 90000 := Nat.le_trans (len_num b hn.or_ hn.lr) hn.br
theorem lenD (hn : Nmb K) (b : Nat → Nat) : (rowsOf K.descs b).length ≤ 90000 := Nat.le_trans (len_num b hn.od hn.ld) hn.bd
theorem lenX (hn : Nmb K) (b : Nat → Nat) : (rowsOf K.pipes b).length ≤ 90000 := Nat.le_trans (len_num b hn.ox hn.lx) hn.bx
theorem getR_any (h : KerIs w B q K M) (x : Int) : Calls Tryz.prog 84 #[.pointer (some ⟨q, 5, none⟩), .int .i64 x] w fun e w' => e = .returned (ptrV ((askI K.procs x).map M.br)) ∧ Below w.heap.size w w' := by
  obtain ⟨xv, dv, rv, o1, o2, ho⟩ := h.own
  rw [← rows_askI h.num.or_]
  exact RR.get_any (regR ho h.num) (by have := lenR h.num M.br; omega) x
theorem getD_any (h : KerIs w B q K M) (x : Int) : Calls Tryz.prog 189 #[.pointer (some ⟨q, 3, none⟩), .int .i64 x] w fun e w' => e = .returned (ptrV ((askI K.descs x).map M.bd)) ∧ Below w.heap.size w w' := by
  obtain ⟨xv, dv, rv, o1, o2, ho⟩ := h.own
  rw [← rows_askI h.num.od]
  exact RD.get_any (regD ho h.num) (by have := lenD h.num M.bd; omega) x
theorem countR_any (h : KerIs w B q K M) : Calls Tryz.prog 224 #[.pointer (some ⟨q, 5, none⟩)] w fun e w' => e = .returned (.int .i64 (K.procs.length : Nat)) ∧ w' = w := by
  obtain ⟨xv, dv, rv, o1, o2, ho⟩ := h.own
  rw [← rows_len K.procs M.br]
  exact RR.count_any (regR ho h.num)
theorem process_any (h : KerIs w B q K M) (pid : Int) : Calls Tryz.prog 46 #[.pointer (some ⟨q, 0, none⟩), .int .i64 pid] w fun e w' => e = .returned (ptrV ((liveM K pid).map M.br)) ∧ Below w.heap.size w w' := by
  have hg := Lib.hid (getR_any h pid)
  cases ha : askI K.procs pid with
  | none =>
    have hl : liveM K pid = none := by
      unfold liveM
      unfold askI at ha
      split
      · rename_i h0
        rw [if_pos h0] at ha
        cases hk : ask K.procs pid.toNat with
        | none => rfl
        | some P => rw [hk] at ha; cases ha
      · rfl
    rw [hl]
    rw [ha] at hg
    clear h ha hl
    go_enter Tryz.func46, Tryz.ntmps46
    go_wp2_with (go_at_call 84; refine hg.out.mono ?_; rintro e w' ⟨rfl, hb⟩; unfold ptrV)
    go_ret
    exact ⟨rfl, hb⟩
  | some n =>
    obtain ⟨h0, P, hP, hn⟩ : 0 ≤ pid ∧ ∃ P, ask K.procs pid.toNat = some P ∧ pid.toNat = n := by
      unfold askI at ha
      split at ha
      · rename_i h0
        cases hk : ask K.procs pid.toNat with
        | none => rw [hk] at ha; cases ha
        | some P => rw [hk] at ha; exact ⟨h0, P, rfl, Option.some.inj ha⟩
      · cases ha
    have hl : liveM K pid = if P.ended then none else some n := by unfold liveM; rw [if_pos h0, hP, ← hn]
    rw [hn] at hP
    obtain ⟨hB, _, hS, _, _⟩ : PrcAt w (B (.proc n)) (M.br n) (M.bt n) P := h.part (.proc n) P hP
    have c5 : w.cell? ⟨M.br n, 5, none⟩ = some (.bool P.ended) := hB.cell 5
    have hlt := h.lt _ _ hS
    obtain ⟨b, hb⟩ : ∃ b, M.br n = b := ⟨_, rfl⟩
    rw [hl]
    rw [ha] at hg
    have hg' : Hid (Calls Tryz.prog 84 #[.pointer (some ⟨q, 5, none⟩), .int .i64 pid] w fun e w' => e = .returned (.pointer (some ⟨b, 0, none⟩)) ∧ Below w.heap.size w w') := Lib.hid (by rw [← hb]; exact hg.out)
    rw [hb] at c5 hlt
    have hbH := Lib.hid hb
    have k5 := Lib.hid c5
    clear h ha hl hP hB hS hn h0 hg hb c5
    cases he : P.ended with
    | true =>
      rw [he] at k5
      clear he
      go_enter Tryz.func46, Tryz.ntmps46
      go_wp2_with (go_at_call 84; refine hg'.out.mono ?_; rintro e w' ⟨rfl, hbw⟩; have d5 : w'.cell? ⟨b, 5, none⟩ = some (.bool true) := (hbw.cell hlt).trans k5.out)
      go_ret
      exact ⟨rfl, hbw⟩
    | false =>
      rw [he] at k5
      clear he
      go_enter Tryz.func46, Tryz.ntmps46
      go_wp2_with (go_at_call 84; refine hg'.out.mono ?_; rintro e w' ⟨rfl, hbw⟩; have d5 : w'.cell? ⟨b, 5, none⟩ = some (.bool false) := (hbw.cell hlt).trans k5.out)
      go_ret
      refine ⟨?_, hbw⟩
      show _ = Ending.returned (.pointer (some ⟨M.br n, 0, none⟩))
      rw [hbH.out]
      rfl
theorem mayRead_any {bx : Nat → Nat} {S : Nat → Prop} {b : Nat} {D : Dsc} (h : DscAt bx w S b D) : Calls Tryz.prog 134 #[.pointer (some ⟨b, 0, none⟩)] w fun e w' => e = .returned (.bool (mayRd D)) ∧ w' = w := by
  have c0 : w.cell? ⟨b, 0, none⟩ = some (.int .i64 D.kind) := h.1.cell 0
  have c1 : w.cell? ⟨b, 1, none⟩ = some (.int .i64 D.n) := h.1.cell 1
  have c4 : w.cell? ⟨b, 4, none⟩ = some (.int .i64 D.flags) := h.1.cell 4
  clear h
  unfold mayRd
  obtain ⟨kind, n, at_, refs, flags, pipe, text⟩ := D
  dsimp only at c0 c1 c4 ⊢
  by_cases h1 : kind = 1
  · subst h1
    rw [if_pos rfl]
    by_cases hn : n = 0
    · subst hn
      go_enter Tryz.func134, Tryz.ntmps134
      go_wp2
      go_ret
      exact ⟨rfl, rfl⟩
    · have d1 : ((n : Int) == 0) = false := by rw [beq_eq_false_iff_ne]; omega
      have d2 : (n == 0) = false := by simp [hn]
      rw [d2]
      clear d2
      go_enter Tryz.func134, Tryz.ntmps134
      go_wp2
      go_ret
      exact ⟨by first | rfl | (simp; done) | (simp [hn]; done), rfl⟩
  · rw [if_neg h1]
    have d0 : ((kind : Int) == 1) = false := by rw [beq_eq_false_iff_ne]; omega
    by_cases h2 : kind = 2
    · subst h2
      rw [if_pos rfl]
      go_enter Tryz.func134, Tryz.ntmps134
      go_wp2
      go_ret
      exact ⟨by first | rfl | simp, rfl⟩
    · rw [if_neg h2]
      have d2 : ((kind : Int) == 2) = false := by rw [beq_eq_false_iff_ne]; omega
      by_cases h3 : kind = 3
      · subst h3
        go_enter Tryz.func134, Tryz.ntmps134
        go_wp2
        go_ret
        exact ⟨by first | rfl | simp, rfl⟩
      · have d3 : ((kind : Int) == 3) = false := by rw [beq_eq_false_iff_ne]; omega
        have d4 : (kind == 3) = false := by rw [beq_eq_false_iff_ne]; exact h3
        rw [d4]
        by_cases h5 : kind = 5
        · subst h5
          go_enter Tryz.func134, Tryz.ntmps134
          go_wp2
          go_ret
          exact ⟨by first | rfl | simp, rfl⟩
        · have d5 : ((kind : Int) == 5) = false := by rw [beq_eq_false_iff_ne]; omega
          have d6 : (kind == 5) = false := by rw [beq_eq_false_iff_ne]; exact h5
          rw [d6]
          go_enter Tryz.func134, Tryz.ntmps134
          go_wp2
          go_ret
          exact ⟨by first | rfl | simp, rfl⟩
theorem mayWrite_any {bx : Nat → Nat} {S : Nat → Prop} {b : Nat} {D : Dsc} (h : DscAt bx w S b D) : Calls Tryz.prog 136 #[.pointer (some ⟨b, 0, none⟩)] w fun e w' => e = .returned (.bool (mayWr D)) ∧ w' = w := by
  have c0 : w.cell? ⟨b, 0, none⟩ = some (.int .i64 D.kind) := h.1.cell 0
  have c1 : w.cell? ⟨b, 1, none⟩ = some (.int .i64 D.n) := h.1.cell 1
  have c4 : w.cell? ⟨b, 4, none⟩ = some (.int .i64 D.flags) := h.1.cell 4
  clear h
  unfold mayWr
  obtain ⟨kind, n, at_, refs, flags, pipe, text⟩ := D
  dsimp only at c0 c1 c4 ⊢
  by_cases h1 : kind = 1
  · subst h1
    rw [if_pos rfl]
    by_cases hn : n = 0
    · subst hn
      go_enter Tryz.func136, Tryz.ntmps136
      go_wp2
      go_ret
      exact ⟨rfl, rfl⟩
    · have d1 : ((n : Int) == 0) = false := by rw [beq_eq_false_iff_ne]; omega
      have d2 : (n != 0) = true := by simp [hn]
      rw [d2]
      clear d2
      go_enter Tryz.func136, Tryz.ntmps136
      go_wp2
      go_ret
      exact ⟨by first | rfl | (simp; done) | (simp [hn]; done), rfl⟩
  · rw [if_neg h1]
    have d0 : ((kind : Int) == 1) = false := by rw [beq_eq_false_iff_ne]; omega
    by_cases h2 : kind = 2
    · subst h2
      rw [if_pos rfl]
      go_enter Tryz.func136, Tryz.ntmps136
      go_wp2
      go_ret
      exact ⟨by first | rfl | simp, rfl⟩
    · rw [if_neg h2]
      have d2 : ((kind : Int) == 2) = false := by rw [beq_eq_false_iff_ne]; omega
      by_cases h4 : kind = 4
      · subst h4
        go_enter Tryz.func136, Tryz.ntmps136
        go_wp2
        go_ret
        exact ⟨by first | rfl | simp, rfl⟩
      · have d3 : ((kind : Int) == 4) = false := by rw [beq_eq_false_iff_ne]; omega
        have d4 : (kind == 4) = false := by rw [beq_eq_false_iff_ne]; exact h4
        rw [d4]
        go_enter Tryz.func136, Tryz.ntmps136
        go_wp2
        go_ret
        exact ⟨by first | rfl | simp, rfl⟩
theorem tabGet_any {T : Nat} {f : Nat → Pp.Sl} (h : Pp.TabAt w T f) (fd : Int) : Calls Tryz.prog 188 #[.pointer (some ⟨T, 0, none⟩), .int .i64 fd] w fun e w' => e = .returned (.tuple #[.int .i64 (tabM f fd).1, .int .i64 (tabM f fd).2]) ∧ w' = w := by
  unfold tabM
  by_cases hf : 0 ≤ fd ∧ fd < 32
  · obtain ⟨i, rfl⟩ : ∃ i : Nat, fd = i := ⟨fd.toNat, by omega⟩
    rw [if_pos hf]
    exact Pp.get_in i (by omega) w h
  · rw [if_neg hf]
    exact Pp.get_out fd hf w
theorem named_any (h : KerIs w B q K M) {n : Nat} {P : Prc} (hP : ask K.procs n = some P) (fd : Int) : Calls Tryz.prog 133 #[.pointer (some ⟨q, 0, none⟩), .pointer (some ⟨M.br n, 0, none⟩), .int .i64 fd] w fun e w' => e = .returned (ptrV ((namedN K P fd).map M.bd)) ∧ Below w.heap.size w w' := by
  obtain ⟨hB, hT, _, _, _⟩ : PrcAt w (B (.proc n)) (M.br n) (M.bt n) P := h.part (.proc n) P hP
  obtain ⟨tb, htb⟩ : ∃ tb, M.bt n = tb := ⟨_, rfl⟩
  rw [htb] at hB hT
  obtain ⟨b, hb⟩ : ∃ b, M.br n = b := ⟨_, rfl⟩
  rw [hb] at hB ⊢
  have c2 : w.cell? ⟨b, 2, none⟩ = some (.pointer (some ⟨tb, 0, none⟩)) := hB.cell 2
  have ht := Lib.hid (tabGet_any hT fd)
  unfold namedN
  obtain ⟨x, hx⟩ : ∃ x, tabM P.tab fd = x := ⟨_, rfl⟩
  rw [hx] at ht ⊢
  obtain ⟨x1, x2⟩ := x
  have hg := Lib.hid (getD_any h x1)
  dsimp only at ht ⊢
  clear h hP hB hT hx hb
  by_cases h0 : x2 = 0
  · subst h0
    rw [if_neg (by simp)]
    obtain ⟨r, hr⟩ : ∃ r, ptrV ((askI K.descs x1).map M.bd) = r := ⟨_, rfl⟩
    rw [hr] at hg ⊢
    clear hr
    go_enter Tryz.func133, Tryz.ntmps133
    go_wp2_with (first
      | (go_at_call 188; refine ht.out.mono ?_; rintro e w' ⟨rfl, rfl⟩)
      | (go_at_call 189; refine hg.out.mono ?_; rintro e w' ⟨rfl, hb⟩))
    go_ret
    exact ⟨rfl, hb⟩
  · rw [if_pos h0]
    have d0 : (x2 == 0) = false := beq_eq_false_iff_ne.2 h0
    go_enter Tryz.func133, Tryz.ntmps133
    go_wp2_with (go_at_call 188; refine ht.out.mono ?_; rintro e w' ⟨rfl, rfl⟩)
    go_ret
    exact ⟨rfl, Below.refl _ _⟩
def readN (K : Ker) (P : Prc) (fd : Int) : Option Nat := match namedN K P fd with
  | some m => (match ask K.descs m with | some D => if mayRd D then some m else none | none => none)
  | none => none
theorem readable_any (h : KerIs w B q K M) {n : Nat} {P : Prc} (hP : ask K.procs n = some P) (fd : Int) : Calls Tryz.prog 85 #[.pointer (some ⟨q, 0, none⟩), .pointer (some ⟨M.br n, 0, none⟩), .int .i64 fd] w fun e w' => e = .returned (ptrV ((readN K P fd).map M.bd)) ∧ Below w.heap.size w w' := by
  have hnm := named_any h hP fd
  obtain ⟨b, hb⟩ : ∃ b, M.br n = b := ⟨_, rfl⟩
  rw [hb] at hnm ⊢
  cases hm : namedN K P fd with
  | none =>
    have hr : readN K P fd = none := by unfold readN; rw [hm]
    rw [hr]
    rw [hm] at hnm
    have hnH := Lib.hid hnm
    clear h hP hm hr hnm hb
    go_enter Tryz.func85, Tryz.ntmps85
    go_wp2_with (go_at_call 133; refine hnH.out.mono ?_; rintro e w' ⟨rfl, hb⟩; unfold ptrV)
    go_ret
    exact ⟨rfl, hb⟩
  | some m =>
    obtain ⟨D, hD⟩ : ∃ D, ask K.descs m = some D := by
      unfold namedN askI at hm
      split at hm
      · cases hm
      · split at hm
        · cases hk : ask K.descs (tabM P.tab fd).1.toNat with
          | none => rw [hk] at hm; cases hm
          | some D => rw [hk] at hm; have e := Option.some.inj hm; rw [← e]; exact ⟨D, hk⟩
        · cases hm
    have hr : readN K P fd = if mayRd D then some m else none := by unfold readN; rw [hm]; dsimp only; rw [hD]
    have hd := Lib.hid (fun (W : World) (hW : Below w.heap.size w W) => mayRead_any (((h.below hW).part (.desc m)) D hD))
    rw [hr]
    rw [hm] at hnm
    obtain ⟨d, hde⟩ : ∃ d, M.bd m = d := ⟨_, rfl⟩
    have hnH : Hid (Calls Tryz.prog 133 #[.pointer (some ⟨q, 0, none⟩), .pointer (some ⟨b, 0, none⟩), .int .i64 fd] w fun e w' => e = .returned (.pointer (some ⟨d, 0, none⟩)) ∧ Below w.heap.size w w') := Lib.hid (by rw [← hde]; exact hnm)
    rw [hde] at hd
    have hdeH := Lib.hid hde
    cases hmay : mayRd D with
    | true =>
      rw [hmay] at hd
      clear h hP hm hr hnm hb hD hmay hde
      go_enter Tryz.func85, Tryz.ntmps85
      go_wp2_with (first
        | (go_at_call 133; refine hnH.out.mono ?_; rintro e w1 ⟨rfl, hb⟩)
        | (go_at_call 134; refine (hd.out _ hb).mono ?_; rintro e w2 ⟨rfl, rfl⟩))
      go_ret
      refine ⟨?_, hb⟩
      show _ = Ending.returned (.pointer (some ⟨M.bd m, 0, none⟩))
      rw [hdeH.out]
      rfl
    | false =>
      rw [hmay] at hd
      clear h hP hm hr hnm hb hD hmay hde
      go_enter Tryz.func85, Tryz.ntmps85
      go_wp2_with (first
        | (go_at_call 133; refine hnH.out.mono ?_; rintro e w1 ⟨rfl, hb⟩)
        | (go_at_call 134; refine (hd.out _ hb).mono ?_; rintro e w2 ⟨rfl, rfl⟩))
      go_ret
      exact ⟨rfl, hb⟩
def writN (K : Ker) (P : Prc) (fd : Int) : Option Nat := match namedN K P fd with
  | some m => (match ask K.descs m with | some D => if mayWr D then some m else none | none => none)
  | none => none
theorem writable_any (h : KerIs w B q K M) {n : Nat} {P : Prc} (hP : ask K.procs n = some P) (fd : Int) : Calls Tryz.prog 87 #[.pointer (some ⟨q, 0, none⟩), .pointer (some ⟨M.br n, 0, none⟩), .int .i64 fd] w fun e w' => e = .returned (ptrV ((writN K P fd).map M.bd)) ∧ Below w.heap.size w w' := by
  have hnm := named_any h hP fd
  obtain ⟨b, hb⟩ : ∃ b, M.br n = b := ⟨_, rfl⟩
  rw [hb] at hnm ⊢
  cases hm : namedN K P fd with
  | none =>
    have hr : writN K P fd = none := by unfold writN; rw [hm]
    rw [hr]
    rw [hm] at hnm
    have hnH := Lib.hid hnm
    clear h hP hm hr hnm hb
    go_enter Tryz.func87, Tryz.ntmps87
    go_wp2_with (go_at_call 133; refine hnH.out.mono ?_; rintro e w' ⟨rfl, hb⟩; unfold ptrV)
    go_ret
    exact ⟨rfl, hb⟩
  | some m =>
    obtain ⟨D, hD⟩ : ∃ D, ask K.descs m = some D := by
      unfold namedN askI at hm
      split at hm
      · cases hm
      · split at hm
        · cases hk : ask K.descs (tabM P.tab fd).1.toNat with
          | none => rw [hk] at hm; cases hm
          | some D => rw [hk] at hm; have e := Option.some.inj hm; rw [← e]; exact ⟨D, hk⟩
        · cases hm
    have hr : writN K P fd = if mayWr D then some m else none := by unfold writN; rw [hm]; dsimp only; rw [hD]
    have hd := Lib.hid (fun (W : World) (hW : Below w.heap.size w W) => mayWrite_any (((h.below hW).part (.desc m)) D hD))
    rw [hr]
    rw [hm] at hnm
    obtain ⟨d, hde⟩ : ∃ d, M.bd m = d := ⟨_, rfl⟩
    have hnH : Hid (Calls Tryz.prog 133 #[.pointer (some ⟨q, 0, none⟩), .pointer (some ⟨b, 0, none⟩), .int .i64 fd] w fun e w' => e = .returned (.pointer (some ⟨d, 0, none⟩)) ∧ Below w.heap.size w w') := Lib.hid (by rw [← hde]; exact hnm)
    rw [hde] at hd
    have hdeH := Lib.hid hde
    cases hmay : mayWr D with
    | true =>
      rw [hmay] at hd
      clear h hP hm hr hnm hb hD hmay hde
      go_enter Tryz.func87, Tryz.ntmps87
      go_wp2_with (first
        | (go_at_call 133; refine hnH.out.mono ?_; rintro e w1 ⟨rfl, hb⟩)
        | (go_at_call 136; refine (hd.out _ hb).mono ?_; rintro e w2 ⟨rfl, rfl⟩))
      go_ret
      refine ⟨?_, hb⟩
      show _ = Ending.returned (.pointer (some ⟨M.bd m, 0, none⟩))
      rw [hdeH.out]
      rfl
    | false =>
      rw [hmay] at hd
      clear h hP hm hr hnm hb hD hmay hde
      go_enter Tryz.func87, Tryz.ntmps87
      go_wp2_with (first
        | (go_at_call 133; refine hnH.out.mono ?_; rintro e w1 ⟨rfl, hb⟩)
        | (go_at_call 136; refine (hd.out _ hb).mono ?_; rintro e w2 ⟨rfl, rfl⟩))
      go_ret
      exact ⟨rfl, hb⟩
end
end Go.Proofs.YtmilagppbepnbaaGreat.Kn
/- The kernel: one part turns: a process, a description, a pipe, the tree; what a walk has come to. No condition. -/
namespace Go.Proofs.YtmilagppbepnbaaGreat.Kn
open Go.RowKit Go.PlainAid
set_option linter.unusedVariables false
set_option linter.unusedSimpArgs false
theorem put1_len {X : Type} (l : List (Nat × X)) (n : Nat) (x : X) : (put1 l n x).length = l.length := List.length_map ..
theorem put1_mem {X : Type} {l : List (Nat × X)} {n : Nat} {x : X} {p : Nat × X} (h : p ∈ put1 l n x) : ∃ r ∈ l, r.1 = p.1 := by
  unfold put1 at h
  obtain ⟨r, hr, e⟩ := List.mem_map.1 h
  refine ⟨r, hr, ?_⟩
  split at e
  · rename_i e1; rw [← e]; exact e1
  · rw [e]
/-- The kernel with a process, a description, a pipe, a tree anew. -/
def setR (K : Ker) (n : Nat) (P : Prc) : Ker := { K with procs := put1 K.procs n P }
def setD (K : Ker) (n : Nat) (D : Dsc) : Ker := { K with descs := put1 K.descs n D }
def setX (K : Ker) (n : Nat) (s : Pp.St) : Ker := { K with pipes := put1 K.pipes n s }
def setF (K : Ker) (f : Fs) : Ker := { K with fs := f }
theorem nmbR {K : Ker} (h : Nmb K) (n : Nat) (P : Prc) : Nmb (setR K n P) :=
  ⟨h.ox, h.od, put1_ord h.or_ n P, h.lx, h.ld, fun p hp => by obtain ⟨r, hr, e⟩ := put1_mem hp; rw [← e]; exact h.lr r hr, h.bx, h.bd, h.br⟩
theorem nmbD {K : Ker} (h : Nmb K) (n : Nat) (D : Dsc) : Nmb (setD K n D) :=
  ⟨h.ox, put1_ord h.od n D, h.or_, h.lx, fun p hp => by obtain ⟨r, hr, e⟩ := put1_mem hp; rw [← e]; exact h.ld r hr, h.lr, h.bx, h.bd, h.br⟩
theorem nmbX {K : Ker} (h : Nmb K) (n : Nat) (s : Pp.St) : Nmb (setX K n s) :=
  ⟨put1_ord h.ox n s, h.od, h.or_, fun p hp => by obtain ⟨r, hr, e⟩ := put1_mem hp; rw [← e]; exact h.lx r hr, h.ld, h.lr, h.bx, h.bd, h.br⟩
theorem nmbF {K : Ker} (h : Nmb K) (f : Fs) : Nmb (setF K f) := ⟨h.ox, h.od, h.or_, h.lx, h.ld, h.lr, h.bx, h.bd, h.br⟩
section
variable {w w' : World} {B : Ix → Nat → Prop} {q : Nat} {K : Ker} {M : Mp}
theorem step_R (h : KerIs w B q K M) {n : Nat} {P P' : Prc} (hP : ask K.procs n = some P) {S : Nat → Prop} (h' : PrcAt w' S (M.br n) (M.bt n) P') (hS : ∀ g, S g → B (.proc n) g ∨ w.heap.size ≤ g) (hl : ∀ g, S g → g < w'.heap.size) (hF : Frm (B (.proc n)) w w') :
    KP (AllX B) w K M w' q (setR K n P') := by
  refine h.step (.proc n) hS hl hF (K' := setR K n P') (M' := M) ?_ (fun j hj hp => ?_) (nmbR h.num n P') (MExt.refl K M) (Nat.le_refl _) (Nat.le_refl _) (Nat.le_refl _)
  · intro Q hQ
    have : ask (put1 K.procs n P') n = some Q := hQ
    rw [ask_put hP, if_pos rfl] at this
    cases this
    exact h'
  · cases j with
    | own =>
      obtain ⟨xv, dv, rv, o1, o2, k⟩ := hp
      exact ⟨xv, dv, rv, o1, o2, k.blk, k.rx, k.rd, by
        show w'.ownsRow 0 _ 2 rv (put1 K.procs n P').length (flat rcs (rowsOf (put1 K.procs n P') M.br))
        rw [put1_len, put1_rows]; exact k.rr, k.p1, k.p2, k.sq, k.sx, k.sd, k.sr, k.s1, k.s2, k.ne⟩
    | fs => exact hp
    | pipe m => exact hp
    | desc m => exact hp
    | proc m =>
      intro Q hQ
      have h1 : ask (put1 K.procs n P') m = some Q := hQ
      rw [ask_put hP, if_neg (fun e => hj (by rw [e]))] at h1
      exact hp Q h1
theorem step_X (h : KerIs w B q K M) {n : Nat} {s s' : Pp.St} (hs : ask K.pipes n = some s) {S : Nat → Prop} (h' : PipAt w' S (M.bx n) s') (hS : ∀ g, S g → B (.pipe n) g ∨ w.heap.size ≤ g) (hl : ∀ g, S g → g < w'.heap.size) (hF : Frm (B (.pipe n)) w w') :
    KP (AllX B) w K M w' q (setX K n s') := by
  refine h.step (.pipe n) hS hl hF (K' := setX K n s') (M' := M) ?_ (fun j hj hp => ?_) (nmbX h.num n s') (MExt.refl K M) (Nat.le_refl _) (Nat.le_refl _) (Nat.le_refl _)
  · intro Q hQ
    have : ask (put1 K.pipes n s') n = some Q := hQ
    rw [ask_put hs, if_pos rfl] at this
    cases this
    exact h'
  · cases j with
    | own =>
      obtain ⟨xv, dv, rv, o1, o2, k⟩ := hp
      exact ⟨xv, dv, rv, o1, o2, k.blk, by
        show w'.ownsRow 0 _ 2 xv (put1 K.pipes n s').length (flat rcs (rowsOf (put1 K.pipes n s') M.bx))
        rw [put1_len, put1_rows]; exact k.rx, k.rd, k.rr, k.p1, k.p2, k.sq, k.sx, k.sd, k.sr, k.s1, k.s2, k.ne⟩
    | fs => exact hp
    | desc m => exact hp
    | proc m => exact hp
    | pipe m =>
      intro Q hQ
      have h1 : ask (put1 K.pipes n s') m = some Q := hQ
      rw [ask_put hs, if_neg (fun e => hj (by rw [e]))] at h1
      exact hp Q h1
/-- The tree turns: by what a step of the tree leaves. -/
theorem step_F (h : KerIs w B q K M) {Bf : Nat → Nat → Prop} (hB : ∀ g, All Bf g → B .fs g) {f' : Fs} (h' : FsP (All Bf) w w' M.fp f') : KP (AllX B) w K M w' q (setF K f') := by
  obtain ⟨B', h1, h2, h3⟩ := h'
  refine h.step .fs (S := All B') (fun g hg => (h2 g hg).elim (fun h => .inl (hB g h)) .inr) (fun g ⟨i, hi⟩ => h1.lt i g hi) (h3.mono hB) (K' := setF K f') (M' := M) ⟨B', h1, fun g hg => hg⟩ (fun j hj hp => ?_) (nmbF h.num f') (MExt.refl K M) (Nat.le_refl _) (Nat.le_refl _) (Nat.le_refl _)
  cases j with
  | own =>
    obtain ⟨xv, dv, rv, o1, o2, k⟩ := hp
    exact ⟨xv, dv, rv, o1, o2, k.blk, k.rx, k.rd, k.rr, k.p1, k.p2, k.sq, k.sx, k.sd, k.sr, k.s1, k.s2, k.ne⟩
  | fs => exact absurd rfl hj
  | pipe m => exact hp
  | desc m => exact hp
  | proc m => exact hp
theorem frm_of_pp {T U : Nat} {S : Nat → Prop} (h : Pp.Frame T U w w') (hT : S T) (hU : S U) : Frm S w w' :=
  ⟨h.os, h.tape, h.output, h.size, fun g hg hn => h.block g hg (fun e => hn (e ▸ hT)) (fun e => hn (e ▸ hU))⟩
/-- What a walk has come to. -/
structure Cur (O : Nat → Prop) (w0 : World) (K0 : Ker) (M0 : Mp) (q : Nat) (w : World) (K : Ker) (B : Ix → Nat → Prop) (M : Mp) : Prop where
  is_ : KerIs w B q K M
  ext : MExt K0 M0 M
  lx : K0.lastX ≤ K.lastX
  ld : K0.lastD ≤ K.lastD
  lr : K0.lastR ≤ K.lastR
  own : ∀ g, AllX B g → O g ∨ w0.heap.size ≤ g
  frm : Frm O w0 w
variable {O : Nat → Prop} {w0 : World} {K0 K' : Ker} {M0 : Mp}
theorem Cur.kp (h : Cur O w0 K0 M0 q w K B M) : KP O w0 K0 M0 w q K := ⟨B, M, h.is_, h.ext, h.lx, h.ld, h.lr, h.own, h.frm⟩
theorem Cur.next (h : Cur O w0 K0 M0 q w K B M) (k : KP (AllX B) w K M w' q K') : ∃ B' M', Cur O w0 K0 M0 q w' K' B' M' ∧ MExt K M M' ∧ K.lastX ≤ K'.lastX ∧ K.lastD ≤ K'.lastD ∧ K.lastR ≤ K'.lastR := by
  obtain ⟨B', M', k1, k2, k3, k4, k5, k6, k7⟩ := k
  exact ⟨B', M', ⟨k1, h.ext.trans k2 h.lx h.ld h.lr, Nat.le_trans h.lx k3, Nat.le_trans h.ld k4, Nat.le_trans h.lr k5, fun g hg => (k6 g hg).elim (h.own g) (fun h' => .inr (Nat.le_trans h.frm.size h')), h.frm.trans h.own k7⟩, k2, k3, k4, k5⟩
end
end Go.Proofs.YtmilagppbepnbaaGreat.Kn
/- The kernel: tables of descriptors by plain functions; a process's table turns. Condition: the kernel lies as stated. -/
namespace Go.Proofs.YtmilagppbepnbaaGreat.Kn
open Go.RowKit Go.PlainAid
set_option linter.unusedVariables false
set_option linter.unusedSimpArgs false
attribute [local go_sem] Oper.semAt_some
/-- The first free number from a on, of m that are looked at. -/
def ffree (f : Nat → Pp.Sl) : Nat → Nat → Option Nat
  | 0, _ => none
  | m + 1, a => if (f a).tk then ffree f m (a + 1) else some a
theorem ffree_some {f : Nat → Pp.Sl} : ∀ {m a j : Nat}, ffree f m a = some j → a ≤ j ∧ j < a + m ∧ (f j).tk = false ∧ ∀ k, a ≤ k → k < j → (f k).tk = true
  | 0, a, j, h => by cases h
  | m + 1, a, j, h => by
    unfold ffree at h
    cases ht : (f a).tk with
    | true =>
      rw [ht, if_pos rfl] at h
      obtain ⟨h1, h2, h3, h4⟩ := ffree_some h
      refine ⟨by omega, by omega, h3, fun k k1 k2 => ?_⟩
      rcases Nat.eq_or_lt_of_le k1 with e | e
      · rw [← e]; exact ht
      · exact h4 k e k2
    | false =>
      rw [ht, if_neg (by decide)] at h
      cases h
      exact ⟨Nat.le_refl _, by omega, ht, fun k k1 k2 => by omega⟩
theorem ffree_none {f : Nat → Pp.Sl} : ∀ {m a : Nat}, ffree f m a = none → ∀ k, a ≤ k → k < a + m → (f k).tk = true
  | 0, a, _, k, h1, h2 => by omega
  | m + 1, a, h, k, h1, h2 => by
    unfold ffree at h
    cases ht : (f a).tk with
    | true =>
      rw [ht, if_pos rfl] at h
      rcases Nat.eq_or_lt_of_le h1 with e | e
      · rw [← e]; exact ht
      · exact ffree_none h k e (by omega)
    | false => rw [ht, if_neg (by decide)] at h; cases h
/-- Put, Cut, Set, Mark: what is answered, and the slots behind. -/
def tputM (f : Nat → Pp.Sl) (x least : Int) : Int × Int × (Nat → Pp.Sl) :=
  if 0 ≤ least ∧ least < 32 then (match ffree f (32 - least.toNat) least.toNat with | some j => ((j : Int), 0, Pp.upd f j ⟨true, false, x⟩) | none => (0, 24, f)) else (0, 22, f)
def tcutM (f : Nat → Pp.Sl) (fd : Int) : Int × Int × (Nat → Pp.Sl) :=
  if 0 ≤ fd ∧ fd < 32 then (if (f fd.toNat).tk then ((f fd.toNat).x, 0, Pp.upd f fd.toNat Pp.Sl.none) else (0, 9, f)) else (0, 9, f)
def tsetM (f : Nat → Pp.Sl) (fd x : Int) : Int × Bool × Int × (Nat → Pp.Sl) :=
  if 0 ≤ fd ∧ fd < 32 then ((f fd.toNat).x, (f fd.toNat).tk, 0, Pp.upd f fd.toNat ⟨true, false, x⟩) else (0, false, 9, f)
def tmarkM (f : Nat → Pp.Sl) (fd : Int) (b : Bool) : Int × (Nat → Pp.Sl) :=
  if 0 ≤ fd ∧ fd < 32 then (if (f fd.toNat).tk then (0, Pp.upd f fd.toNat { f fd.toNat with mr := b }) else (9, f)) else (9, f)
def tfreeM (f : Nat → Pp.Sl) : Int := 32 - (Pp.upto f 32).length
section
variable {w : World} {T : Nat} {f : Nat → Pp.Sl}
theorem tabPut_any (h : Pp.TabAt w T f) (x least : Int) : Calls Tryz.prog 59 #[.pointer (some ⟨T, 0, none⟩), .int .i64 x, .int .i64 least] w fun e w' => e = .returned (.tuple #[.int .i64 (tputM f x least).1, .int .i64 (tputM f x least).2.1]) ∧ Pp.TabAt w' T (tputM f x least).2.2 ∧ Pp.Frame T T w w' := by
  unfold tputM
  by_cases hl : 0 ≤ least ∧ least < 32
  · obtain ⟨a, rfl⟩ : ∃ a : Nat, least = a := ⟨least.toNat, by omega⟩
    rw [if_pos hl, Int.toNat_natCast]
    cases hf : ffree f (32 - a) a with
    | none =>
      have := ffree_none hf
      exact (Pp.put_full x a (by omega) w h (Lib.hid (fun k h1 h2 => this k h1 (by omega)))).mono fun e w' ⟨h1, h2⟩ => ⟨h1, by rw [h2]; exact h, by rw [h2]; exact Pp.Frame.refl _ _ _⟩
    | some j =>
      obtain ⟨h1, h2, h3, h4⟩ := ffree_some hf
      exact Pp.put_in x a j h1 (by omega) w h (Lib.hid h4) (Lib.hid h3)
  · rw [if_neg hl]
    exact (Pp.put_bad x least hl w).mono fun e w' ⟨h1, h2⟩ => ⟨h1, by rw [h2]; exact h, by rw [h2]; exact Pp.Frame.refl _ _ _⟩
theorem tabCut_any (h : Pp.TabAt w T f) (fd : Int) : Calls Tryz.prog 198 #[.pointer (some ⟨T, 0, none⟩), .int .i64 fd] w fun e w' => e = .returned (.tuple #[.int .i64 (tcutM f fd).1, .int .i64 (tcutM f fd).2.1]) ∧ Pp.TabAt w' T (tcutM f fd).2.2 ∧ Pp.Frame T T w w' := by
  have hg := tabGet_any h fd
  unfold tcutM
  by_cases hl : 0 ≤ fd ∧ fd < 32
  · obtain ⟨a, rfl⟩ : ∃ a : Nat, fd = a := ⟨fd.toNat, by omega⟩
    rw [if_pos hl, Int.toNat_natCast]
    cases ht : (f a).tk with
    | true =>
      rw [if_pos rfl]
      exact Pp.cut_in a (by omega) w h ht
    | false =>
      rw [if_neg (by decide)]
      have hg2 : Calls Tryz.prog 188 #[.pointer (some ⟨T, 0, none⟩), .int .i64 a] w fun e w' => e = .returned (.tuple #[.int .i64 0, .int .i64 9]) ∧ w' = w := by
        unfold tabM at hg
        rw [if_pos hl, Int.toNat_natCast] at hg
        unfold Pp.Sl.val Pp.Sl.err at hg
        rw [ht] at hg
        exact hg
      exact (Pp.cut_none (a : Int) w (Lib.hid hg2)).mono fun e w' ⟨h1, h2⟩ => ⟨h1, by rw [h2]; exact h, by rw [h2]; exact Pp.Frame.refl _ _ _⟩
  · rw [if_neg hl]
    unfold tabM at hg
    rw [if_neg hl] at hg
    exact (Pp.cut_none fd w (Lib.hid hg)).mono fun e w' ⟨h1, h2⟩ => ⟨h1, by rw [h2]; exact h, by rw [h2]; exact Pp.Frame.refl _ _ _⟩
theorem tabSet_any (h : Pp.TabAt w T f) (fd x : Int) : Calls Tryz.prog 199 #[.pointer (some ⟨T, 0, none⟩), .int .i64 fd, .int .i64 x] w fun e w' => e = .returned (.tuple #[.int .i64 (tsetM f fd x).1, .bool (tsetM f fd x).2.1, .int .i64 (tsetM f fd x).2.2.1]) ∧ Pp.TabAt w' T (tsetM f fd x).2.2.2 ∧ Pp.Frame T T w w' := by
  unfold tsetM
  by_cases hl : 0 ≤ fd ∧ fd < 32
  · obtain ⟨a, rfl⟩ : ∃ a : Nat, fd = a := ⟨fd.toNat, by omega⟩
    rw [if_pos hl, Int.toNat_natCast]
    exact Pp.set_in x a (by omega) w h
  · rw [if_neg hl]
    exact (Pp.set_out fd x hl w).mono fun e w' ⟨h1, h2⟩ => ⟨h1, by rw [h2]; exact h, by rw [h2]; exact Pp.Frame.refl _ _ _⟩
theorem tabMark_any (h : Pp.TabAt w T f) (fd : Int) (b : Bool) : Calls Tryz.prog 145 #[.pointer (some ⟨T, 0, none⟩), .int .i64 fd, .bool b] w fun e w' => e = .returned (.int .i64 (tmarkM f fd b).1) ∧ Pp.TabAt w' T (tmarkM f fd b).2 ∧ Pp.Frame T T w w' := by
  unfold tmarkM
  by_cases hl : 0 ≤ fd ∧ fd < 32
  · obtain ⟨a, rfl⟩ : ∃ a : Nat, fd = a := ⟨fd.toNat, by omega⟩
    rw [if_pos hl, Int.toNat_natCast]
    cases ht : (f a).tk with
    | true => rw [if_pos rfl]; exact Pp.mark_in b a (by omega) w h ht
    | false =>
      rw [if_neg (by decide)]
      exact (Pp.mark_none b a (by omega) w h ht).mono fun e w' ⟨h1, h2⟩ => ⟨h1, by rw [h2]; exact h, by rw [h2]; exact Pp.Frame.refl _ _ _⟩
  · rw [if_neg hl]
    exact (Pp.mark_out fd b hl w).mono fun e w' ⟨h1, h2⟩ => ⟨h1, by rw [h2]; exact h, by rw [h2]; exact Pp.Frame.refl _ _ _⟩
end
section
variable {w w' : World} {B : Ix → Nat → Prop} {q : Nat} {K : Ker} {M : Mp}
/-- A process's table turns. -/
theorem step_T (h : KerIs w B q K M) {n : Nat} {P : Prc} (hP : ask K.procs n = some P) {f : Nat → Pp.Sl} (hT : Pp.TabAt w' (M.bt n) f) (hF : Pp.Frame (M.bt n) (M.bt n) w w') :
    KP (AllX B) w K M w' q (setR K n { P with tab := f }) := by
  obtain ⟨hB, _, hS1, hS2, hne⟩ : PrcAt w (B (.proc n)) (M.br n) (M.bt n) P := h.part (.proc n) P hP
  have hbr : w'.heap[M.br n]? = w.heap[M.br n]? := hF.block _ (h.lt _ _ hS1) (fun e => hne e.symm) (fun e => hne e.symm)
  exact step_R h hP (S := B (.proc n)) ⟨hB.keep hbr, hT, hS1, hS2, hne⟩ (fun g hg => .inl hg) (fun g hg => Nat.lt_of_lt_of_le (h.lt _ _ hg) hF.size) (frm_of_pp hF hS2 hS2)
/-- A process's cell turns. -/
theorem step_pc (h : KerIs w B q K M) {n : Nat} {P P' : Prc} (hP : ask K.procs n = some P) (i : Nat) (v : Value) (hc : ∀ tb, (pcells P tb).toArray.setIfInBounds i v = (pcells P' tb).toArray) (ht : P'.tab = P.tab) : KP (AllX B) w K M (w.setCell ⟨M.br n, i, none⟩ v) q (setR K n P') := by
  obtain ⟨hB, hT, hS1, hS2, hne⟩ : PrcAt w (B (.proc n)) (M.br n) (M.bt n) P := h.part (.proc n) P hP
  exact step_R h hP (S := B (.proc n)) ⟨by rw [← hc (M.bt n)]; exact hB.set_ i v, by rw [ht]; exact hT.keep (Below.heap_setCell _ _ _ _ hne), hS1, hS2, hne⟩ (fun g hg => .inl hg) (fun g hg => by simpa using h.lt _ _ hg) ((Frm.refl _ _).setCell (a := ⟨M.br n, i, none⟩) (.inl hS1) v)
end
end Go.Proofs.YtmilagppbepnbaaGreat.Kn
/- The kernel: its registers turn: put, cut. Condition: the kernel lies as stated. -/
namespace Go.Proofs.YtmilagppbepnbaaGreat.Kn
open Go.RowKit Go.PlainAid
set_option linter.unusedVariables false
set_option linter.unusedSimpArgs false
attribute [local go_sem] Oper.semAt_some
theorem ask_app {X : Type} {l : List (Nat × X)} {n : Nat} {x : X} (h : ∀ p ∈ l, p.1 ≠ n) (m : Nat) : ask (l ++ [(n, x)]) m = if m = n then some x else ask l m := by
  induction l with
  | nil => show (if n = m then some x else none) = if m = n then some x else none
           by_cases e : n = m
           · rw [if_pos e, if_pos e.symm]
           · rw [if_neg e, if_neg (fun k => e k.symm)]
  | cons p t ih =>
    have hp := h p (List.mem_cons_self ..)
    rw [List.cons_append]
    unfold ask
    rw [ih (fun r hr => h r (List.mem_cons_of_mem _ hr))]
    by_cases em : m = n
    · subst em; rw [if_neg hp, if_pos rfl, if_pos rfl]
    · rw [if_neg em, if_neg em]
theorem app_ord {X : Type} {l : List (Nat × X)} {n : Nat} {x : X} (h : OrdK l) (hn : ∀ p ∈ l, p.1 < n) : OrdK (l ++ [(n, x)]) := by
  unfold OrdK at *
  rw [List.map_append, List.pairwise_append]
  refine ⟨h, List.pairwise_singleton _ _, fun a ha b hb => ?_⟩
  obtain ⟨p, hp, rfl⟩ := List.mem_map.1 ha
  obtain rfl : b = n := by simpa using hb
  exact hn p hp
def upN (b : Nat → Nat) (n v : Nat) : Nat → Nat := fun m => if m = n then v else b m
theorem rows_app {X : Type} {l : List (Nat × X)} {n : Nat} {x : X} (b : Nat → Nat) (v : Nat) (hn : ∀ p ∈ l, p.1 ≠ n) : rowsOf (l ++ [(n, x)]) (upN b n v) = rowsOf l b ++ [(n, v)] := by
  unfold rowsOf upN
  rw [List.map_append]
  congr 1
  · exact List.map_congr_left (fun p hp => by rw [if_neg (hn p hp)])
  · simp
theorem cut1_len {X : Type} (l : List (Nat × X)) (n : Nat) (b : Nat → Nat) : (rowsOf (cut1 l n) b).length = (cut1 l n).length := rows_len _ _
theorem cut1_mem {X : Type} {l : List (Nat × X)} {n : Nat} {p : Nat × X} (h : p ∈ cut1 l n) : p ∈ l := (List.mem_filter.1 h).1
section
variable {w w' : World} {B : Ix → Nat → Prop} {q : Nat} {K : Ker} {M : Mp}
/-- A part that nothing speaks of is given blocks. -/
theorem give (h : KerIs w B q K M) (i : Ix) {S : Nat → Prop} (hv : Part K M q w S i) (hd : ∀ j g, B j g → ¬ S g) (hl : ∀ g, S g → g < w.heap.size) : KerIs w (upX B i S) q K M := by
  refine ⟨fun j => ?_, fun a b g ha hb => ?_, fun a g ha => ?_, h.num⟩
  · by_cases e : j = i
    · subst e; rw [upX_self]; exact hv
    · rw [upX_ne B e]; exact h.part j
  · unfold upX at ha hb
    split at ha
    · split at hb
      · rename_i e1 e2; rw [e1, e2]
      · exact absurd ha (hd _ _ hb)
    · split at hb
      · exact absurd hb (hd _ _ ha)
      · exact h.apart _ _ _ ha hb
  · unfold upX at ha
    split at ha
    · exact hl g ha
    · exact h.lt _ _ ha
theorem row_apart {w : World} {t u : TypeId} {a b : Nat} {v z : Value} {n m : Nat} {xs ys : List Value} (h : w.ownsRow 0 t a v n xs) (k : w.ownsRow 0 u b z m ys) (hne : t ≠ u) {g : Nat} (hg : v.ownBlock = some g) : ¬ z.ownBlock = some g := by
  intro hz
  rcases h.2 with ⟨rfl, _⟩ | ⟨g1, c1, cur1, rfl, _, hb1, _⟩
  · simp [Value.ownBlock] at hg
  · rcases k.2 with ⟨rfl, _⟩ | ⟨g2, c2, cur2, rfl, _, hb2, _⟩
    · simp [Value.ownBlock] at hz
    · obtain rfl : g1 = g := by simpa [Value.ownBlock] using hg
      obtain rfl : g2 = g1 := by simpa [Value.ownBlock] using hz
      rw [hb1] at hb2
      simp at hb2
      exact hne hb2.2

/- register R -/
def putR (K : Ker) (x : Prc) : Ker := { K with procs := K.procs ++ [(K.lastR + 1, x)], lastR := K.lastR + 1 }
def mpR (M : Mp) (K : Ker) (b tb : Nat) : Mp := { M with br := upN M.br (K.lastR + 1) b, bt := upN M.bt (K.lastR + 1) tb }
theorem nmbPR (h : Nmb K) (x : Prc) (hl : K.lastR < 90000) : Nmb (putR K x) := by
  have h1 : ∀ p ∈ K.procs, p.1 < K.lastR + 1 := fun p hp => Nat.lt_succ_of_le (h.lr p hp).2
  have h2 := app_ord (x := x) h.or_ h1
  have h3 : ∀ p ∈ K.procs ++ [(K.lastR + 1, x)], 1 ≤ p.1 ∧ p.1 ≤ K.lastR + 1 := fun p hp => by
    rcases List.mem_append.1 hp with hp | hp
    · have := h.lr p hp; omega
    · obtain rfl : p = (K.lastR + 1, x) := by simpa using hp
      exact ⟨by simp, Nat.le_refl _⟩
  exact ⟨h.ox, h.od, h2, h.lx, h.ld, h3, h.bx, h.bd, (by show K.lastR + 1 ≤ 90000; omega)⟩
set_option maxHeartbeats 1000000 in
theorem putR_any (h : KerIs w B q K M) {S : Nat → Prop} {b tb : Nat} {x : Prc} (hx : PrcAt w S b tb x) (hd : ∀ j g, B j g → ¬ S g) (hl : ∀ g, S g → g < w.heap.size) (hlast : K.lastR < 90000) :
    Calls Tryz.prog 29 #[.pointer (some ⟨q, 5, none⟩), .pointer (some ⟨b, 0, none⟩)] w fun e w' => e = .returned (.int .i64 ((K.lastR : Int) + 1)) ∧ ∃ B', KerIs w' B' q (putR K x) (mpR M K b tb) ∧ (∀ g, AllX B' g → (AllX B g ∨ S g) ∨ w.heap.size ≤ g) ∧ Frm (B .own) w w' ∧ (∀ j, j ≠ .own → j ≠ .proc (K.lastR + 1) → B' j = B j) := by
  obtain ⟨xv, dv, rv, o1, o2, ho⟩ := h.own
  have hne : ∀ p ∈ K.procs, p.1 ≠ K.lastR + 1 := fun p hp => by have := (h.num.lr p hp).2; omega
  have hno : ask K.procs (K.lastR + 1) = none := ask_none.2 hne
  have hB1 := give h (.proc (K.lastR + 1)) (S := S) (fun s hs => by rw [hno] at hs; cases hs) hd hl
  have hsx : upX B (.proc (K.lastR + 1)) S (.proc (K.lastR + 1)) = S := upX_self _ _ _
  have hso : upX B (.proc (K.lastR + 1)) S .own = B .own := upX_ne B (by simp) S
  refine (RR.put_any (regR ho h.num) (by decide) (by omega) (by have := lenR h.num M.br; omega) (by show 5 + 1 < 11; decide) b).mono fun e w' ⟨he, v', hr, hv, hF⟩ => ⟨he, ?_⟩
  have hFo : Frm (upX B (.proc (K.lastR + 1)) S .own) w w' := by rw [hso]; exact hF.mono (fun g hg => hg.elim (fun e => by rw [e]; exact ho.sq) (ho.sr g))
  have hnew : PrcAt w' S b tb x := hx.keep (fun g hg => hF.block g (hl g hg) (fun hh => by
    rcases hh with e | e
    · exact hd .own g (by rw [e]; exact ho.sq) hg
    · exact hd .own g (ho.sr g e) hg))
  have hin : ∀ g, g < w.heap.size → B .own g → g ≠ q → rv.ownBlock ≠ some g → w'.heap[g]? = w.heap[g]? := fun g h1 _ h2 h3 => hF.block g h1 (fun hh => hh.elim h2 h3)
  have hlen : (K.procs ++ [(K.lastR + 1, x)]).length = (rowsOf K.procs M.br ++ [(K.lastR + 1, b)]).length := by rw [List.length_append, List.length_append, rows_len]; rfl
  obtain ⟨S', hS'⟩ : ∃ S' : Nat → Prop, S' = fun g => B .own g ∨ v'.ownBlock = some g := ⟨_, rfl⟩
  have hv2 : ∀ g, v'.ownBlock = some g → B .own g ∨ w.heap.size ≤ g := fun g hg => (hv g hg).elim (fun h1 => .inl (ho.sr g h1)) .inr
  have hlv : ∀ g, v'.ownBlock = some g → g < w'.heap.size := fun g hg => row_lt hr.row hg
  have hown : OwnAt w' S' q (putR K x) (mpR M K b tb) xv dv v' o1 o2 := by
    subst hS'
    refine ⟨?_, ?_, ?_, ?_, ?_, ?_, .inl ho.sq, fun g hg => .inl (ho.sx g hg), fun g hg => .inl (ho.sd g hg), fun g hg => .inr hg, fun g hg => .inl (ho.s1 g hg), fun g hg => .inl (ho.s2 g hg), ho.ne⟩
    · exact hr.blk
    · exact row_keep ho.rx (fun g hg => hin g (row_lt ho.rx hg) (ho.sx g hg) (fun e => row_off ho.blk (by decide) ho.rx (by rw [← e]; exact hg.symm)) (fun e => (row_apart ho.rr ho.rx (by decide) e) hg))
    · exact row_keep ho.rd (fun g hg => hin g (row_lt ho.rd hg) (ho.sd g hg) (fun e => row_off ho.blk (by decide) ho.rd (by rw [← e]; exact hg.symm)) (fun e => (row_apart ho.rr ho.rd (by decide) e) hg))
    · show w'.ownsRow 0 _ 2 v' (K.procs ++ [(K.lastR + 1, x)]).length (flat rcs (rowsOf (K.procs ++ [(K.lastR + 1, x)]) (upN M.br (K.lastR + 1) b)))
      rw [rows_app M.br b hne, hlen]
      exact hr.row
    · exact row_keep ho.p1 (fun g hg => hin g (row_lt ho.p1 hg) (ho.s1 g hg) (fun e => row_off ho.blk (by decide) ho.p1 (by rw [← e]; exact hg.symm)) (fun e => (row_apart ho.rr ho.p1 (by decide) e) hg))
    · exact row_keep ho.p2 (fun g hg => hin g (row_lt ho.p2 hg) (ho.s2 g hg) (fun e => row_off ho.blk (by decide) ho.p2 (by rw [← e]; exact hg.symm)) (fun e => (row_apart ho.rr ho.p2 (by decide) e) hg))
  have hk := hB1.turn .own (S := S') (K' := putR K x) (M' := mpR M K b tb) (w' := w') (fun g hg => by
    subst hS'; rw [hso]
    exact hg.elim .inl (hv2 g)) (fun g hg => by
    subst hS'
    exact hg.elim (fun h1 => Nat.lt_of_lt_of_le (h.lt _ _ h1) hF.size) (hlv g)) hFo ⟨_, _, _, _, _, hown⟩ (fun j hj hp => ?_) (nmbPR h.num x hlast)
  · refine ⟨_, hk, fun g ⟨j, hj⟩ => ?_, by rw [← hso]; exact hFo, fun j h1 h2 => by rw [upX_ne _ h1, upX_ne B h2]⟩
    unfold upX at hj
    split at hj
    · subst hS'
      exact hj.elim (fun h1 => .inl (.inl ⟨_, h1⟩)) (fun h1 => (hv2 g h1).elim (fun h2 => .inl (.inl ⟨_, h2⟩)) .inr)
    · split at hj
      · exact .inl (.inr hj)
      · exact .inl (.inl ⟨_, hj⟩)
  · cases j with
    | own => exact absurd rfl hj
    | fs => exact hp
    | pipe m => exact hp
    | desc m => exact hp
    | proc m =>
      intro y hy
      have hy2 : ask (K.procs ++ [(K.lastR + 1, x)]) m = some y := hy
      rw [ask_app hne] at hy2
      by_cases e : m = K.lastR + 1
      · subst e
        rw [if_pos rfl] at hy2
        cases hy2
        rw [hsx]
        show PrcAt w' S (upN M.br (K.lastR + 1) b (K.lastR + 1)) (upN M.bt (K.lastR + 1) tb (K.lastR + 1)) x
        rw [show upN M.br (K.lastR + 1) b (K.lastR + 1) = b by unfold upN; rw [if_pos rfl], show upN M.bt (K.lastR + 1) tb (K.lastR + 1) = tb by unfold upN; rw [if_pos rfl]]
        exact hnew
      · rw [if_neg e] at hy2
        show PrcAt w' _ (upN M.br (K.lastR + 1) b m) (upN M.bt (K.lastR + 1) tb m) y
        rw [show upN M.br (K.lastR + 1) b m = M.br m by unfold upN; rw [if_neg e], show upN M.bt (K.lastR + 1) tb m = M.bt m by unfold upN; rw [if_neg e]]
        exact hp y hy2
def cutKR (K : Ker) (n : Nat) : Ker := { K with procs := cut1 K.procs n }
theorem nmbCR (h : Nmb K) (n : Nat) : Nmb (cutKR K n) := by
  have h2 := cut1_ord h.or_ n
  have h3 : ∀ p ∈ cut1 K.procs n, 1 ≤ p.1 ∧ p.1 ≤ K.lastR := fun p hp => h.lr p (cut1_mem hp)
  exact ⟨h.ox, h.od, h2, h.lx, h.ld, h3, h.bx, h.bd, h.br⟩

/- register D -/
def putD (K : Ker) (x : Dsc) : Ker := { K with descs := K.descs ++ [(K.lastD + 1, x)], lastD := K.lastD + 1 }
def mpD (M : Mp) (K : Ker) (b : Nat) : Mp := { M with bd := upN M.bd (K.lastD + 1) b }
theorem nmbPD (h : Nmb K) (x : Dsc) (hl : K.lastD < 90000) : Nmb (putD K x) := by
  have h1 : ∀ p ∈ K.descs, p.1 < K.lastD + 1 := fun p hp => Nat.lt_succ_of_le (h.ld p hp).2
  have h2 := app_ord (x := x) h.od h1
  have h3 : ∀ p ∈ K.descs ++ [(K.lastD + 1, x)], 1 ≤ p.1 ∧ p.1 ≤ K.lastD + 1 := fun p hp => by
    rcases List.mem_append.1 hp with hp | hp
    · have := h.ld p hp; omega
    · obtain rfl : p = (K.lastD + 1, x) := by simpa using hp
      exact ⟨by simp, Nat.le_refl _⟩
  exact ⟨h.ox, h2, h.or_, h.lx, h3, h.lr, h.bx, (by show K.lastD + 1 ≤ 90000; omega), h.br⟩
set_option maxHeartbeats 1000000 in
theorem putD_any (h : KerIs w B q K M) {S : Nat → Prop} {b : Nat} {x : Dsc} (hx : DscAt M.bx w S b x) (hd : ∀ j g, B j g → ¬ S g) (hl : ∀ g, S g → g < w.heap.size) (hlast : K.lastD < 90000) :
    Calls Tryz.prog 60 #[.pointer (some ⟨q, 3, none⟩), .pointer (some ⟨b, 0, none⟩)] w fun e w' => e = .returned (.int .i64 ((K.lastD : Int) + 1)) ∧ ∃ B', KerIs w' B' q (putD K x) (mpD M K b) ∧ (∀ g, AllX B' g → (AllX B g ∨ S g) ∨ w.heap.size ≤ g) ∧ Frm (B .own) w w' ∧ (∀ j, j ≠ .own → j ≠ .desc (K.lastD + 1) → B' j = B j) := by
  obtain ⟨xv, dv, rv, o1, o2, ho⟩ := h.own
  have hne : ∀ p ∈ K.descs, p.1 ≠ K.lastD + 1 := fun p hp => by have := (h.num.ld p hp).2; omega
  have hno : ask K.descs (K.lastD + 1) = none := ask_none.2 hne
  have hB1 := give h (.desc (K.lastD + 1)) (S := S) (fun s hs => by rw [hno] at hs; cases hs) hd hl
  have hsx : upX B (.desc (K.lastD + 1)) S (.desc (K.lastD + 1)) = S := upX_self _ _ _
  have hso : upX B (.desc (K.lastD + 1)) S .own = B .own := upX_ne B (by simp) S
  refine (RD.put_any (regD ho h.num) (by decide) (by omega) (by have := lenD h.num M.bd; omega) (by show 3 + 1 < 11; decide) b).mono fun e w' ⟨he, v', hr, hv, hF⟩ => ⟨he, ?_⟩
  have hFo : Frm (upX B (.desc (K.lastD + 1)) S .own) w w' := by rw [hso]; exact hF.mono (fun g hg => hg.elim (fun e => by rw [e]; exact ho.sq) (ho.sd g))
  have hnew : DscAt M.bx w' S b x := hx.keep (fun g hg => hF.block g (hl g hg) (fun hh => by
    rcases hh with e | e
    · exact hd .own g (by rw [e]; exact ho.sq) hg
    · exact hd .own g (ho.sd g e) hg))
  have hin : ∀ g, g < w.heap.size → B .own g → g ≠ q → dv.ownBlock ≠ some g → w'.heap[g]? = w.heap[g]? := fun g h1 _ h2 h3 => hF.block g h1 (fun hh => hh.elim h2 h3)
  have hlen : (K.descs ++ [(K.lastD + 1, x)]).length = (rowsOf K.descs M.bd ++ [(K.lastD + 1, b)]).length := by rw [List.length_append, List.length_append, rows_len]; rfl
  obtain ⟨S', hS'⟩ : ∃ S' : Nat → Prop, S' = fun g => B .own g ∨ v'.ownBlock = some g := ⟨_, rfl⟩
  have hv2 : ∀ g, v'.ownBlock = some g → B .own g ∨ w.heap.size ≤ g := fun g hg => (hv g hg).elim (fun h1 => .inl (ho.sd g h1)) .inr
  have hlv : ∀ g, v'.ownBlock = some g → g < w'.heap.size := fun g hg => row_lt hr.row hg
  have hown : OwnAt w' S' q (putD K x) (mpD M K b) xv v' rv o1 o2 := by
    subst hS'
    refine ⟨?_, ?_, ?_, ?_, ?_, ?_, .inl ho.sq, fun g hg => .inl (ho.sx g hg), fun g hg => .inr hg, fun g hg => .inl (ho.sr g hg), fun g hg => .inl (ho.s1 g hg), fun g hg => .inl (ho.s2 g hg), ho.ne⟩
    · exact hr.blk
    · exact row_keep ho.rx (fun g hg => hin g (row_lt ho.rx hg) (ho.sx g hg) (fun e => row_off ho.blk (by decide) ho.rx (by rw [← e]; exact hg.symm)) (fun e => (row_apart ho.rd ho.rx (by decide) e) hg))
    · show w'.ownsRow 0 _ 2 v' (K.descs ++ [(K.lastD + 1, x)]).length (flat rcs (rowsOf (K.descs ++ [(K.lastD + 1, x)]) (upN M.bd (K.lastD + 1) b)))
      rw [rows_app M.bd b hne, hlen]
      exact hr.row
    · exact row_keep ho.rr (fun g hg => hin g (row_lt ho.rr hg) (ho.sr g hg) (fun e => row_off ho.blk (by decide) ho.rr (by rw [← e]; exact hg.symm)) (fun e => (row_apart ho.rd ho.rr (by decide) e) hg))
    · exact row_keep ho.p1 (fun g hg => hin g (row_lt ho.p1 hg) (ho.s1 g hg) (fun e => row_off ho.blk (by decide) ho.p1 (by rw [← e]; exact hg.symm)) (fun e => (row_apart ho.rd ho.p1 (by decide) e) hg))
    · exact row_keep ho.p2 (fun g hg => hin g (row_lt ho.p2 hg) (ho.s2 g hg) (fun e => row_off ho.blk (by decide) ho.p2 (by rw [← e]; exact hg.symm)) (fun e => (row_apart ho.rd ho.p2 (by decide) e) hg))
  have hk := hB1.turn .own (S := S') (K' := putD K x) (M' := mpD M K b) (w' := w') (fun g hg => by
    subst hS'; rw [hso]
    exact hg.elim .inl (hv2 g)) (fun g hg => by
    subst hS'
    exact hg.elim (fun h1 => Nat.lt_of_lt_of_le (h.lt _ _ h1) hF.size) (hlv g)) hFo ⟨_, _, _, _, _, hown⟩ (fun j hj hp => ?_) (nmbPD h.num x hlast)
  · refine ⟨_, hk, fun g ⟨j, hj⟩ => ?_, by rw [← hso]; exact hFo, fun j h1 h2 => by rw [upX_ne _ h1, upX_ne B h2]⟩
    unfold upX at hj
    split at hj
    · subst hS'
      exact hj.elim (fun h1 => .inl (.inl ⟨_, h1⟩)) (fun h1 => (hv2 g h1).elim (fun h2 => .inl (.inl ⟨_, h2⟩)) .inr)
    · split at hj
      · exact .inl (.inr hj)
      · exact .inl (.inl ⟨_, hj⟩)
  · cases j with
    | own => exact absurd rfl hj
    | fs => exact hp
    | pipe m => exact hp
    | desc m =>
      intro y hy
      have hy2 : ask (K.descs ++ [(K.lastD + 1, x)]) m = some y := hy
      rw [ask_app hne] at hy2
      by_cases e : m = K.lastD + 1
      · subst e
        rw [if_pos rfl] at hy2
        cases hy2
        rw [hsx]
        show DscAt M.bx w' S (upN M.bd (K.lastD + 1) b (K.lastD + 1)) x
        rw [show upN M.bd (K.lastD + 1) b (K.lastD + 1) = b by unfold upN; rw [if_pos rfl]]
        exact hnew
      · rw [if_neg e] at hy2
        show DscAt M.bx w' _ (upN M.bd (K.lastD + 1) b m) y
        rw [show upN M.bd (K.lastD + 1) b m = M.bd m by unfold upN; rw [if_neg e]]
        exact hp y hy2
    | proc m => exact hp
def cutKD (K : Ker) (n : Nat) : Ker := { K with descs := cut1 K.descs n }
theorem nmbCD (h : Nmb K) (n : Nat) : Nmb (cutKD K n) := by
  have h2 := cut1_ord h.od n
  have h3 : ∀ p ∈ cut1 K.descs n, 1 ≤ p.1 ∧ p.1 ≤ K.lastD := fun p hp => h.ld p (cut1_mem hp)
  exact ⟨h.ox, h2, h.or_, h.lx, h3, h.lr, h.bx, h.bd, h.br⟩
set_option maxHeartbeats 1000000 in
theorem cutD_any (h : KerIs w B q K M) (n : Nat) : Calls Tryz.prog 227 #[.pointer (some ⟨q, 3, none⟩), .int .i64 n] w fun e w' => e = .returned (.tuple #[]) ∧ ∃ B', KerIs w' B' q (cutKD K n) M ∧ (∀ g, AllX B' g → AllX B g ∨ w.heap.size ≤ g) ∧ Frm (B .own) w w' ∧ (∀ j, j ≠ .own → B' j = B j) := by
  obtain ⟨xv, dv, rv, o1, o2, ho⟩ := h.own
  refine (RD.cut_any (regD ho h.num) (by decide) (by have := lenD h.num M.bd; omega) (by show 3 + 1 < 11; decide) (n : Int)).mono fun e w' ⟨he, v', hr, hv, hF⟩ => ⟨he, ?_⟩
  rw [rows_cut h.num.od] at hr
  have hFo : Frm (B .own) w w' := hF.mono (fun g hg => hg.elim (fun e => by rw [e]; exact ho.sq) (ho.sd g))
  have hin : ∀ g, g < w.heap.size → B .own g → g ≠ q → dv.ownBlock ≠ some g → w'.heap[g]? = w.heap[g]? := fun g h1 _ h2 h3 => hF.block g h1 (fun hh => hh.elim h2 h3)
  obtain ⟨S', hS'⟩ : ∃ S' : Nat → Prop, S' = fun g => B .own g ∨ v'.ownBlock = some g := ⟨_, rfl⟩
  have hv2 : ∀ g, v'.ownBlock = some g → B .own g ∨ w.heap.size ≤ g := fun g hg => (hv g hg).elim (fun h1 => .inl (ho.sd g h1)) .inr
  have hlv : ∀ g, v'.ownBlock = some g → g < w'.heap.size := fun g hg => row_lt hr.row hg
  have hown : OwnAt w' S' q (cutKD K n) M xv v' rv o1 o2 := by
    subst hS'
    refine ⟨?_, ?_, ?_, ?_, ?_, ?_, .inl ho.sq, fun g hg => .inl (ho.sx g hg), fun g hg => .inr hg, fun g hg => .inl (ho.sr g hg), fun g hg => .inl (ho.s1 g hg), fun g hg => .inl (ho.s2 g hg), ho.ne⟩
    · exact hr.blk
    · exact row_keep ho.rx (fun g hg => hin g (row_lt ho.rx hg) (ho.sx g hg) (fun e => row_off ho.blk (by decide) ho.rx (by rw [← e]; exact hg.symm)) (fun e => (row_apart ho.rd ho.rx (by decide) e) hg))
    · show w'.ownsRow 0 _ 2 v' (cut1 K.descs n).length (flat rcs (rowsOf (cut1 K.descs n) M.bd))
      rw [← cut1_len K.descs n M.bd]
      exact hr.row
    · exact row_keep ho.rr (fun g hg => hin g (row_lt ho.rr hg) (ho.sr g hg) (fun e => row_off ho.blk (by decide) ho.rr (by rw [← e]; exact hg.symm)) (fun e => (row_apart ho.rd ho.rr (by decide) e) hg))
    · exact row_keep ho.p1 (fun g hg => hin g (row_lt ho.p1 hg) (ho.s1 g hg) (fun e => row_off ho.blk (by decide) ho.p1 (by rw [← e]; exact hg.symm)) (fun e => (row_apart ho.rd ho.p1 (by decide) e) hg))
    · exact row_keep ho.p2 (fun g hg => hin g (row_lt ho.p2 hg) (ho.s2 g hg) (fun e => row_off ho.blk (by decide) ho.p2 (by rw [← e]; exact hg.symm)) (fun e => (row_apart ho.rd ho.p2 (by decide) e) hg))
  refine ⟨upX B .own S', h.turn .own (S := S') (K' := cutKD K n) (M' := M) (w' := w') (fun g hg => by
    subst hS'
    exact hg.elim .inl (hv2 g)) (fun g hg => by
    subst hS'
    exact hg.elim (fun h1 => Nat.lt_of_lt_of_le (h.lt _ _ h1) hF.size) (hlv g)) hFo ⟨_, _, _, _, _, hown⟩ (fun j hj hp => ?_) (nmbCD h.num n), fun g ⟨j, hj⟩ => ?_, hFo, fun j hj => upX_ne B hj S'⟩
  rotate_left
  · unfold upX at hj
    split at hj
    · subst hS'
      exact hj.elim (fun h1 => .inl ⟨_, h1⟩) (fun h1 => (hv2 g h1).imp_left (fun h2 => ⟨_, h2⟩))
    · exact .inl ⟨_, hj⟩
  cases j with
  | own => exact absurd rfl hj
  | fs => exact hp
  | pipe m => exact hp
  | desc m =>
    intro y hy
    have hy2 : ask (cut1 K.descs n) m = some y := hy
    rw [ask_cut] at hy2
    split at hy2
    · cases hy2
    · exact hp y hy2
  | proc m => exact hp

/- register X -/
def putX (K : Ker) (x : Pp.St) : Ker := { K with pipes := K.pipes ++ [(K.lastX + 1, x)], lastX := K.lastX + 1 }
def mpX (M : Mp) (K : Ker) (b : Nat) : Mp := { M with bx := upN M.bx (K.lastX + 1) b }
theorem nmbPX (h : Nmb K) (x : Pp.St) (hl : K.lastX < 90000) : Nmb (putX K x) := by
  have h1 : ∀ p ∈ K.pipes, p.1 < K.lastX + 1 := fun p hp => Nat.lt_succ_of_le (h.lx p hp).2
  have h2 := app_ord (x := x) h.ox h1
  have h3 : ∀ p ∈ K.pipes ++ [(K.lastX + 1, x)], 1 ≤ p.1 ∧ p.1 ≤ K.lastX + 1 := fun p hp => by
    rcases List.mem_append.1 hp with hp | hp
    · have := h.lx p hp; omega
    · obtain rfl : p = (K.lastX + 1, x) := by simpa using hp
      exact ⟨by simp, Nat.le_refl _⟩
  exact ⟨h2, h.od, h.or_, h3, h.ld, h.lr, (by show K.lastX + 1 ≤ 90000; omega), h.bd, h.br⟩
set_option maxHeartbeats 1000000 in
theorem putX_any (h : KerIs w B q K M) {S : Nat → Prop} {b : Nat} {x : Pp.St} (hx : PipAt w S b x) (hd : ∀ j g, B j g → ¬ S g) (hl : ∀ g, S g → g < w.heap.size) (hlast : K.lastX < 90000) (hpp : ∀ m y, ask K.descs m = some y → ∀ z, y.pipe = some z → z ≤ K.lastX) :
    Calls Tryz.prog 202 #[.pointer (some ⟨q, 1, none⟩), .pointer (some ⟨b, 0, none⟩)] w fun e w' => e = .returned (.int .i64 ((K.lastX : Int) + 1)) ∧ ∃ B', KerIs w' B' q (putX K x) (mpX M K b) ∧ (∀ g, AllX B' g → (AllX B g ∨ S g) ∨ w.heap.size ≤ g) ∧ Frm (B .own) w w' ∧ (∀ j, j ≠ .own → j ≠ .pipe (K.lastX + 1) → B' j = B j) := by
  obtain ⟨xv, dv, rv, o1, o2, ho⟩ := h.own
  have hne : ∀ p ∈ K.pipes, p.1 ≠ K.lastX + 1 := fun p hp => by have := (h.num.lx p hp).2; omega
  have hno : ask K.pipes (K.lastX + 1) = none := ask_none.2 hne
  have hB1 := give h (.pipe (K.lastX + 1)) (S := S) (fun s hs => by rw [hno] at hs; cases hs) hd hl
  have hsx : upX B (.pipe (K.lastX + 1)) S (.pipe (K.lastX + 1)) = S := upX_self _ _ _
  have hso : upX B (.pipe (K.lastX + 1)) S .own = B .own := upX_ne B (by simp) S
  refine (RX.put_any (regX ho h.num) (by decide) (by omega) (by have := lenX h.num M.bx; omega) (by show 1 + 1 < 11; decide) b).mono fun e w' ⟨he, v', hr, hv, hF⟩ => ⟨he, ?_⟩
  have hFo : Frm (upX B (.pipe (K.lastX + 1)) S .own) w w' := by rw [hso]; exact hF.mono (fun g hg => hg.elim (fun e => by rw [e]; exact ho.sq) (ho.sx g))
  have hnew : PipAt w' S b x := hx.keep (fun g hg => hF.block g (hl g hg) (fun hh => by
    rcases hh with e | e
    · exact hd .own g (by rw [e]; exact ho.sq) hg
    · exact hd .own g (ho.sx g e) hg))
  have hin : ∀ g, g < w.heap.size → B .own g → g ≠ q → xv.ownBlock ≠ some g → w'.heap[g]? = w.heap[g]? := fun g h1 _ h2 h3 => hF.block g h1 (fun hh => hh.elim h2 h3)
  have hlen : (K.pipes ++ [(K.lastX + 1, x)]).length = (rowsOf K.pipes M.bx ++ [(K.lastX + 1, b)]).length := by rw [List.length_append, List.length_append, rows_len]; rfl
  obtain ⟨S', hS'⟩ : ∃ S' : Nat → Prop, S' = fun g => B .own g ∨ v'.ownBlock = some g := ⟨_, rfl⟩
  have hv2 : ∀ g, v'.ownBlock = some g → B .own g ∨ w.heap.size ≤ g := fun g hg => (hv g hg).elim (fun h1 => .inl (ho.sx g h1)) .inr
  have hlv : ∀ g, v'.ownBlock = some g → g < w'.heap.size := fun g hg => row_lt hr.row hg
  have hown : OwnAt w' S' q (putX K x) (mpX M K b) v' dv rv o1 o2 := by
    subst hS'
    refine ⟨?_, ?_, ?_, ?_, ?_, ?_, .inl ho.sq, fun g hg => .inr hg, fun g hg => .inl (ho.sd g hg), fun g hg => .inl (ho.sr g hg), fun g hg => .inl (ho.s1 g hg), fun g hg => .inl (ho.s2 g hg), ho.ne⟩
    · exact hr.blk
    · show w'.ownsRow 0 _ 2 v' (K.pipes ++ [(K.lastX + 1, x)]).length (flat rcs (rowsOf (K.pipes ++ [(K.lastX + 1, x)]) (upN M.bx (K.lastX + 1) b)))
      rw [rows_app M.bx b hne, hlen]
      exact hr.row
    · exact row_keep ho.rd (fun g hg => hin g (row_lt ho.rd hg) (ho.sd g hg) (fun e => row_off ho.blk (by decide) ho.rd (by rw [← e]; exact hg.symm)) (fun e => (row_apart ho.rx ho.rd (by decide) e) hg))
    · exact row_keep ho.rr (fun g hg => hin g (row_lt ho.rr hg) (ho.sr g hg) (fun e => row_off ho.blk (by decide) ho.rr (by rw [← e]; exact hg.symm)) (fun e => (row_apart ho.rx ho.rr (by decide) e) hg))
    · exact row_keep ho.p1 (fun g hg => hin g (row_lt ho.p1 hg) (ho.s1 g hg) (fun e => row_off ho.blk (by decide) ho.p1 (by rw [← e]; exact hg.symm)) (fun e => (row_apart ho.rx ho.p1 (by decide) e) hg))
    · exact row_keep ho.p2 (fun g hg => hin g (row_lt ho.p2 hg) (ho.s2 g hg) (fun e => row_off ho.blk (by decide) ho.p2 (by rw [← e]; exact hg.symm)) (fun e => (row_apart ho.rx ho.p2 (by decide) e) hg))
  have hk := hB1.turn .own (S := S') (K' := putX K x) (M' := mpX M K b) (w' := w') (fun g hg => by
    subst hS'; rw [hso]
    exact hg.elim .inl (hv2 g)) (fun g hg => by
    subst hS'
    exact hg.elim (fun h1 => Nat.lt_of_lt_of_le (h.lt _ _ h1) hF.size) (hlv g)) hFo ⟨_, _, _, _, _, hown⟩ (fun j hj hp => ?_) (nmbPX h.num x hlast)
  · refine ⟨_, hk, fun g ⟨j, hj⟩ => ?_, by rw [← hso]; exact hFo, fun j h1 h2 => by rw [upX_ne _ h1, upX_ne B h2]⟩
    unfold upX at hj
    split at hj
    · subst hS'
      exact hj.elim (fun h1 => .inl (.inl ⟨_, h1⟩)) (fun h1 => (hv2 g h1).elim (fun h2 => .inl (.inl ⟨_, h2⟩)) .inr)
    · split at hj
      · exact .inl (.inr hj)
      · exact .inl (.inl ⟨_, hj⟩)
  · cases j with
    | own => exact absurd rfl hj
    | fs => exact hp
    | pipe m =>
      intro y hy
      have hy2 : ask (K.pipes ++ [(K.lastX + 1, x)]) m = some y := hy
      rw [ask_app hne] at hy2
      by_cases e : m = K.lastX + 1
      · subst e
        rw [if_pos rfl] at hy2
        cases hy2
        rw [hsx]
        show PipAt w' S (upN M.bx (K.lastX + 1) b (K.lastX + 1)) x
        rw [show upN M.bx (K.lastX + 1) b (K.lastX + 1) = b by unfold upN; rw [if_pos rfl]]
        exact hnew
      · rw [if_neg e] at hy2
        show PipAt w' _ (upN M.bx (K.lastX + 1) b m) y
        rw [show upN M.bx (K.lastX + 1) b m = M.bx m by unfold upN; rw [if_neg e]]
        exact hp y hy2
    | desc m =>
      intro y hy
      have h9 := hp y hy
      show DscAt (upN M.bx (K.lastX + 1) b) w' _ (M.bd m) y
      have h8 := hpp m y hy
      refine ⟨?_, h9.2⟩
      have e : dcells (upN M.bx (K.lastX + 1) b) y = dcells M.bx y := by
        unfold dcells
        cases hpi : y.pipe with
        | none => rfl
        | some z =>
          have := h8 z hpi
          show _ = [_, _, _, _, _, ptrV (some (M.bx z)), _]
          rw [show Option.map (upN M.bx (K.lastX + 1) b) (some z) = some (M.bx z) by show some (upN M.bx (K.lastX + 1) b z) = _; unfold upN; rw [if_neg (by omega)]]
      rw [e]
      exact h9.1
    | proc m => exact hp
def cutKX (K : Ker) (n : Nat) : Ker := { K with pipes := cut1 K.pipes n }
theorem nmbCX (h : Nmb K) (n : Nat) : Nmb (cutKX K n) := by
  have h2 := cut1_ord h.ox n
  have h3 : ∀ p ∈ cut1 K.pipes n, 1 ≤ p.1 ∧ p.1 ≤ K.lastX := fun p hp => h.lx p (cut1_mem hp)
  exact ⟨h2, h.od, h.or_, h3, h.ld, h.lr, h.bx, h.bd, h.br⟩
set_option maxHeartbeats 1000000 in
theorem cutX_any (h : KerIs w B q K M) (n : Nat) : Calls Tryz.prog 230 #[.pointer (some ⟨q, 1, none⟩), .int .i64 n] w fun e w' => e = .returned (.tuple #[]) ∧ ∃ B', KerIs w' B' q (cutKX K n) M ∧ (∀ g, AllX B' g → AllX B g ∨ w.heap.size ≤ g) ∧ Frm (B .own) w w' ∧ (∀ j, j ≠ .own → B' j = B j) := by
  obtain ⟨xv, dv, rv, o1, o2, ho⟩ := h.own
  refine (RX.cut_any (regX ho h.num) (by decide) (by have := lenX h.num M.bx; omega) (by show 1 + 1 < 11; decide) (n : Int)).mono fun e w' ⟨he, v', hr, hv, hF⟩ => ⟨he, ?_⟩
  rw [rows_cut h.num.ox] at hr
  have hFo : Frm (B .own) w w' := hF.mono (fun g hg => hg.elim (fun e => by rw [e]; exact ho.sq) (ho.sx g))
  have hin : ∀ g, g < w.heap.size → B .own g → g ≠ q → xv.ownBlock ≠ some g → w'.heap[g]? = w.heap[g]? := fun g h1 _ h2 h3 => hF.block g h1 (fun hh => hh.elim h2 h3)
  obtain ⟨S', hS'⟩ : ∃ S' : Nat → Prop, S' = fun g => B .own g ∨ v'.ownBlock = some g := ⟨_, rfl⟩
  have hv2 : ∀ g, v'.ownBlock = some g → B .own g ∨ w.heap.size ≤ g := fun g hg => (hv g hg).elim (fun h1 => .inl (ho.sx g h1)) .inr
  have hlv : ∀ g, v'.ownBlock = some g → g < w'.heap.size := fun g hg => row_lt hr.row hg
  have hown : OwnAt w' S' q (cutKX K n) M v' dv rv o1 o2 := by
    subst hS'
    refine ⟨?_, ?_, ?_, ?_, ?_, ?_, .inl ho.sq, fun g hg => .inr hg, fun g hg => .inl (ho.sd g hg), fun g hg => .inl (ho.sr g hg), fun g hg => .inl (ho.s1 g hg), fun g hg => .inl (ho.s2 g hg), ho.ne⟩
    · exact hr.blk
    · show w'.ownsRow 0 _ 2 v' (cut1 K.pipes n).length (flat rcs (rowsOf (cut1 K.pipes n) M.bx))
      rw [← cut1_len K.pipes n M.bx]
      exact hr.row
    · exact row_keep ho.rd (fun g hg => hin g (row_lt ho.rd hg) (ho.sd g hg) (fun e => row_off ho.blk (by decide) ho.rd (by rw [← e]; exact hg.symm)) (fun e => (row_apart ho.rx ho.rd (by decide) e) hg))
    · exact row_keep ho.rr (fun g hg => hin g (row_lt ho.rr hg) (ho.sr g hg) (fun e => row_off ho.blk (by decide) ho.rr (by rw [← e]; exact hg.symm)) (fun e => (row_apart ho.rx ho.rr (by decide) e) hg))
    · exact row_keep ho.p1 (fun g hg => hin g (row_lt ho.p1 hg) (ho.s1 g hg) (fun e => row_off ho.blk (by decide) ho.p1 (by rw [← e]; exact hg.symm)) (fun e => (row_apart ho.rx ho.p1 (by decide) e) hg))
    · exact row_keep ho.p2 (fun g hg => hin g (row_lt ho.p2 hg) (ho.s2 g hg) (fun e => row_off ho.blk (by decide) ho.p2 (by rw [← e]; exact hg.symm)) (fun e => (row_apart ho.rx ho.p2 (by decide) e) hg))
  refine ⟨upX B .own S', h.turn .own (S := S') (K' := cutKX K n) (M' := M) (w' := w') (fun g hg => by
    subst hS'
    exact hg.elim .inl (hv2 g)) (fun g hg => by
    subst hS'
    exact hg.elim (fun h1 => Nat.lt_of_lt_of_le (h.lt _ _ h1) hF.size) (hlv g)) hFo ⟨_, _, _, _, _, hown⟩ (fun j hj hp => ?_) (nmbCX h.num n), fun g ⟨j, hj⟩ => ?_, hFo, fun j hj => upX_ne B hj S'⟩
  rotate_left
  · unfold upX at hj
    split at hj
    · subst hS'
      exact hj.elim (fun h1 => .inl ⟨_, h1⟩) (fun h1 => (hv2 g h1).imp_left (fun h2 => ⟨_, h2⟩))
    · exact .inl ⟨_, hj⟩
  cases j with
  | own => exact absurd rfl hj
  | fs => exact hp
  | pipe m =>
    intro y hy
    have hy2 : ask (cut1 K.pipes n) m = some y := hy
    rw [ask_cut] at hy2
    split at hy2
    · cases hy2
    · exact hp y hy2
  | desc m => exact hp
  | proc m => exact hp
end
end Go.Proofs.YtmilagppbepnbaaGreat.Kn
/- The kernel: install. Condition: it lies as stated; the description is a block of its own. -/
namespace Go.Proofs.YtmilagppbepnbaaGreat.Kn
open Go.RowKit Go.PlainAid
set_option linter.unusedVariables false
set_option linter.unusedSimpArgs false
attribute [local go_sem] Oper.semAt_some
/-- What install leaves: a description more, which the process's least free descriptor names. -/
def instM (K : Ker) (n : Nat) (P : Prc) (D : Dsc) : Ker := setR (putD K { D with refs := 1 }) n { P with tab := (tputM P.tab ((K.lastD : Int) + 1) 0).2.2 }
section
variable {w w' : World} {B : Ix → Nat → Prop} {q : Nat} {K : Ker} {M : Mp}
variable {O O' : Nat → Prop} {w0 : World} {K0 K' : Ker} {M0 : Mp}
theorem ext_mpD (M : Mp) (K : Ker) (b : Nat) : MExt K M (mpD M K b) := ⟨fun _ _ => rfl, fun n hn => by show upN M.bd (K.lastD + 1) b n = _; unfold upN; rw [if_neg (by omega)], fun _ _ => rfl, fun _ _ => rfl, rfl⟩
theorem ext_mpR (M : Mp) (K : Ker) (b tb : Nat) : MExt K M (mpR M K b tb) := ⟨fun _ _ => rfl, fun _ _ => rfl, fun n hn => by show upN M.br (K.lastR + 1) b n = _; unfold upN; rw [if_neg (by omega)], fun n hn => by show upN M.bt (K.lastR + 1) tb n = _; unfold upN; rw [if_neg (by omega)], rfl⟩
theorem ext_mpX (M : Mp) (K : Ker) (b : Nat) : MExt K M (mpX M K b) := ⟨fun n hn => by show upN M.bx (K.lastX + 1) b n = _; unfold upN; rw [if_neg (by omega)], fun _ _ => rfl, fun _ _ => rfl, fun _ _ => rfl, rfl⟩
set_option maxRecDepth 100000 in
set_option maxHeartbeats 4000000 in
theorem install_any (h : KerIs w B q K M) {n : Nat} {P : Prc} (hP : ask K.procs n = some P) {S : Nat → Prop} {b : Nat} {D : Dsc} (hx : DscAt M.bx w S b D) (hd : ∀ j g, B j g → ¬ S g) (hl : ∀ g, S g → g < w.heap.size) (hlast : K.lastD < 90000) :
    Calls Tryz.prog 31 #[.pointer (some ⟨q, 0, none⟩), .pointer (some ⟨M.br n, 0, none⟩), .pointer (some ⟨b, 0, none⟩)] w fun e w' => e = .returned (.int .i64 (tputM P.tab ((K.lastD : Int) + 1) 0).1) ∧ KP (fun g => AllX B g ∨ S g) w K M w' q (instM K n P D) := by
  obtain ⟨hB, hT, hS1, hS2, hne⟩ : PrcAt w (B (.proc n)) (M.br n) (M.bt n) P := h.part (.proc n) P hP
  obtain ⟨tb, htb⟩ : ∃ tb, M.bt n = tb := ⟨_, rfl⟩
  rw [htb] at hB hT hS2 hne
  have hbq : S b := hx.2
  obtain ⟨W1, hW1⟩ : ∃ W, w.setCell ⟨b, 3, none⟩ (.int .i64 1) = W := ⟨_, rfl⟩
  have c3 : w.cell? ⟨b, 3, none⟩ = some (.int .i64 D.refs) := hx.1.cell 3
  have f3 := hx.1.frozen 3
  have hF1 : Frm S w W1 := by rw [← hW1]; exact (Frm.refl _ _).setCell (a := ⟨b, 3, none⟩) (.inl hbq) _
  have h1 := h.frm hF1 (fun i g hg => hd i g hg)
  have hx1 : DscAt M.bx W1 S b { D with refs := 1 } := ⟨by rw [← hW1]; exact hx.1.set_ 3 (.int .i64 1), hbq⟩
  have hB1 : Blk W1 (M.br n) 84 (pcells P tb).toArray := hB.keep (hF1.block _ (h.lt _ _ hS1) (hd _ _ hS1))
  have hT1 : Pp.TabAt W1 tb P.tab := hT.keep (hF1.block _ (h.lt _ _ hS2) (hd _ _ hS2))
  have hsz : W1.heap.size = w.heap.size := by rw [← hW1]; simp
  obtain ⟨r, hr⟩ : ∃ r, M.br n = r := ⟨_, rfl⟩
  have d2 : W1.cell? ⟨r, 2, none⟩ = some (.pointer (some ⟨tb, 0, none⟩)) := by rw [← hr]; exact hB1.cell 2
  have d2d : W1.drew.cell? ⟨r, 2, none⟩ = some (.pointer (some ⟨tb, 0, none⟩)) := d2
  have h1d : KerIs W1.drew B q K M := h1.keep (Nat.le_refl _) (fun _ _ _ => rfl)
  have hput := Lib.hid (putD_any h1d (S := S) (b := b) (x := { D with refs := 1 }) hx1 hd (fun g hg => by show g < W1.heap.size; rw [hsz]; exact hl g hg) hlast)
  have hrlt : r < W1.heap.size := by rw [← hr]; exact hB1.lt
  have hrn : ¬ S r := by rw [← hr]; exact hd _ _ hS1
  have hF1H := Lib.hid hF1
  have h1H := Lib.hid h1
  have hW1H := Lib.hid hW1
  have hTH := Lib.hid hT1
  have hS1H := Lib.hid hS1
  have hS2H := Lib.hid hS2
  have hneH := Lib.hid hne
  have hBH := Lib.hid hB1
  have hrH := Lib.hid hr
  have htbH := Lib.hid htb
  have hPH := Lib.hid hP
  have hdH := Lib.hid hd
  have hszH := Lib.hid hsz
  rw [hr]
  clear htb h hP hx hd hl hB hT hS1 hS2 hne hbq hF1 h1 hx1 hB1 hT1 hW1 hr h1d hsz
  go_enter Tryz.func31, Tryz.ntmps31
  go_upto_region 2 with fail
  rw [hW1H.out]
  go_region_held3 (fun Z => Z.cell? ⟨r, 2, none⟩ = some (.pointer (some ⟨tb, 0, none⟩))) (first | exact d2 | exact d2d | exact e2 | exact e3 | go_keep | fail)
    ((first
      | (go_at_call 60; refine hput.out.mono ?_; rintro e w2 ⟨rfl, B2, hk2, ho2, hF2, _⟩; have e2 : w2.cell? ⟨r, 2, none⟩ = some (.pointer (some ⟨tb, 0, none⟩)) := (World.cell?_of_block (hF2.block r hrlt (fun hh => by
          have hh2 : B (.proc n) r := by rw [← hrH.out]; exact hS1H.out
          have := h1H.out.apart _ _ _ hh hh2
          cases this))).trans d2d
         have hT2 : Pp.TabAt w2 tb P.tab := by
           have h9 : PrcAt w2 (B2 (.proc n)) (M.br n) (M.bt n) P := hk2.part (.proc n) P hPH.out
           rw [← htbH.out]; exact h9.2.1
         have hT2H := Lib.hid hT2; have hk2H := Lib.hid hk2; have ho2H := Lib.hid ho2; have hF2H := Lib.hid hF2; clear hT2 hk2 ho2 hF2)
      | (go_at_call 59; refine (tabPut_any hT2H.out _ _).mono ?_; rintro e w3 ⟨rfl, hT3, hF3⟩; have e3 : w3.cell? ⟨r, 2, none⟩ = some (.pointer (some ⟨tb, 0, none⟩)) := (World.cell?_of_block (hF3.block r (by have := block_of_cell e2; exact this) (fun e => hneH.out (e.symm.trans hrH.out.symm)) (fun e => hneH.out (e.symm.trans hrH.out.symm)))).trans e2
         have hT3H := Lib.hid hT3; have hF3H := Lib.hid hF3; clear hT3 hF3)
      | fail))
  all_goals
    go_wp2_with fail
    go_ret
    refine ⟨rfl, ?_⟩
    have hk3 := step_T hk2H.out (P := P) hPH.out (f := (tputM P.tab ((K.lastD : Int) + 1) 0).2.2) (by show Pp.TabAt w3 (M.bt n) _; rw [htbH.out]; exact hT3H.out) (by show Pp.Frame (M.bt n) (M.bt n) w2 w3; rw [htbH.out]; exact hF3H.out)
    obtain ⟨B3, M3, k1, k2, k3, k4, k5, k6, k7⟩ := hk3
    have hF12 : Frm (fun g => AllX B g ∨ S g) w w2 := by
      have h5 : Frm (fun g => AllX B g ∨ S g) w W1.drew := ⟨hF1H.out.os, hF1H.out.tape, hF1H.out.output, hF1H.out.size, fun g h1 h2 => hF1H.out.block g h1 (fun h3 => h2 (.inr h3))⟩
      exact h5.trans (O1 := B .own) (fun g hg => .inl (.inl ⟨_, hg⟩)) hF2H.out
    have hO2 : ∀ g, AllX B2 g → (AllX B g ∨ S g) ∨ w.heap.size ≤ g := fun g hg => (ho2H.out g hg).imp_right (fun h6 => by
      have h7 : W1.heap.size ≤ g := h6
      rw [hszH.out] at h7; exact h7)
    exact ⟨B3, M3, k1, (ext_mpD M K b).trans k2 (Nat.le_refl _) (Nat.le_succ _) (Nat.le_refl _), k3, Nat.le_trans (Nat.le_succ _) k4, k5, fun g hg => (k6 g hg).elim (hO2 g) (fun h8 => .inr (Nat.le_trans hF12.size h8)), hF12.trans hO2 k7⟩
end
end Go.Proofs.YtmilagppbepnbaaGreat.Kn
/- The kernel: its tree of files, asked. Condition: the kernel lies as stated; the tree holds what it holds along all calls. -/
namespace Go.Proofs.YtmilagppbepnbaaGreat.Kn
open Go.RowKit Go.PlainAid
set_option linter.unusedVariables false
set_option linter.unusedSimpArgs false
section
variable {w : World} {B : Ix → Nat → Prop} {q : Nat} {K : Ker} {M : Mp} {c : Nat}
theorem fil_of (h : KerIs w B q K M) : ∃ (Bf : Nat → Nat → Prop) (sv : Value) (ps : List (Option Nat)), FsAt w Bf M.fp K.fs sv ps ∧ ∀ g, All Bf g → B .fs g := by
  obtain ⟨Bf, ⟨sv, ps, h1⟩, h2⟩ : FilAt w (B .fs) M.fp K.fs := h.part .fs
  exact ⟨Bf, sv, ps, h1, h2⟩
theorem fsize (hw : WF c K.fs) : K.fs.length ≤ 9000 := by have := hw.len; omega
theorem fDrop_any (h : KerIs w B q K M) (hw : WF c K.fs) (hc : c ≤ 5000) (n : Int) : Calls Tryz.prog 228 #[.pointer (some ⟨M.fp, 0, none⟩), .int .i64 n] w fun e w' => e = .returned (.int .i64 (DropM K.fs n).1) ∧ KP (AllX B) w K M w' q (setF K ((DropM K.fs n).2)) := by
  obtain ⟨Bf, sv, ps, h1, h2⟩ := fil_of h
  exact (drop_any h1 (hw.fine hc) n).mono fun e w' ⟨he, hp⟩ => ⟨he, step_F h h2 hp⟩
theorem fHold_any (h : KerIs w B q K M) (hw : WF c K.fs) (hc : c ≤ 5000) (n : Int) : Calls Tryz.prog 30 #[.pointer (some ⟨M.fp, 0, none⟩), .int .i64 n] w fun e w' => e = .returned (.int .i64 (HoldM K.fs n).1) ∧ KP (AllX B) w K M w' q (setF K ((HoldM K.fs n).2)) := by
  obtain ⟨Bf, sv, ps, h1, h2⟩ := fil_of h
  exact (hold_any h1 (hw.fine hc) n).mono fun e w' ⟨he, hp⟩ => ⟨he, step_F h h2 hp⟩
theorem fMkdir_any (h : KerIs w B q K M) (hw : WF c K.fs) (hc : c ≤ 5000) (dir : Int) (s : ByteArray) (m : Int) (hs : s.size ≤ maxLen) : Calls Tryz.prog 151 #[.pointer (some ⟨M.fp, 0, none⟩), .int .i64 dir, .string s, .int .i64 m] w fun e w' => e = .returned (.int .i64 (MkdirM K.fs dir s m).2.1) ∧ KP (AllX B) w K M w' q (setF K ((MkdirM K.fs dir s m).2.2)) := by
  obtain ⟨Bf, sv, ps, h1, h2⟩ := fil_of h
  exact (mkdir_any h1 (hw.fine hc) (fsize hw) hw.closed dir s m hs).mono fun e w' ⟨he, hp⟩ => ⟨he, step_F h h2 hp⟩
theorem fWalk_any (h : KerIs w B q K M) (hw : WF c K.fs) (hc : c ≤ 5000) (dir : Int) (s : ByteArray) (hs : s.size ≤ maxLen) : Calls Tryz.prog 147 #[.pointer (some ⟨M.fp, 0, none⟩), .int .i64 dir, .string s] w fun e w' => e = .returned (.tuple #[.int .i64 (WalkM K.fs dir s).1, .int .i64 (WalkM K.fs dir s).2]) ∧ Below w.heap.size w w' := by
  obtain ⟨Bf, sv, ps, h1, h2⟩ := fil_of h
  exact Walk_any h1 (hw.fine hc) hw.closed dir s hs
theorem fStat_any (h : KerIs w B q K M) (hw : WF c K.fs) (hc : c ≤ 5000) (n : Int) : Calls Tryz.prog 148 #[.pointer (some ⟨M.fp, 0, none⟩), .int .i64 n] w fun e w' => e = .returned (.tuple #[.agg (StatM K.fs n).1, .int .i64 (StatM K.fs n).2]) ∧ Below w.heap.size w w' := by
  obtain ⟨Bf, sv, ps, h1, h2⟩ := fil_of h
  exact stat_any h1 (hw.fine hc) n
theorem fPath_any (h : KerIs w B q K M) (hw : WF c K.fs) (hc : c ≤ 5000) (n : Int) : Calls Tryz.prog 156 #[.pointer (some ⟨M.fp, 0, none⟩), .int .i64 n] w fun e w' => e = .returned (.tuple #[.string (PathM K.fs n).1, .int .i64 (PathM K.fs n).2]) ∧ Below w.heap.size w w' := by
  obtain ⟨Bf, sv, ps, h1, h2⟩ := fil_of h
  exact path_any h1 hw hc n
theorem fMay_any (h : KerIs w B q K M) (hw : WF c K.fs) (hc : c ≤ 5000) (n want : Int) : Calls Tryz.prog 205 #[.pointer (some ⟨M.fp, 0, none⟩), .int .i64 n, .int .i64 want] w fun e w' => e = .returned (.bool (MayM K.fs n want)) ∧ w' = w := by
  obtain ⟨Bf, sv, ps, h1, h2⟩ := fil_of h
  exact may_fs h1 (hw.fine hc) n want
end
end Go.Proofs.YtmilagppbepnbaaGreat.Kn
/- The kernel: letGo. Condition: it lies as stated; the description is there, and an end's pipe. -/
namespace Go.Proofs.YtmilagppbepnbaaGreat.Kn
open Go.RowKit Go.PlainAid
set_option linter.unusedVariables false
set_option linter.unusedSimpArgs false
attribute [local go_sem] Oper.semAt_some
def letM (K : Ker) (m : Nat) : Ker := match ask K.descs m with
  | none => K
  | some D =>
    if 0 < D.refs - 1 then setD K m { D with refs := D.refs - 1 }
    else if D.kind = 2 then setF (cutKD (setD K m { D with refs := D.refs - 1 }) m) (DropM K.fs D.n).2
    else if D.kind = 3 ∨ D.kind = 4 then (match ask K.pipes D.n with
      | some s => if (s.closed (decide (D.kind = 4))).r + (s.closed (decide (D.kind = 4))).t = 0 then cutKX (setX (cutKD (setD K m { D with refs := D.refs - 1 }) m) D.n (s.closed (decide (D.kind = 4)))) D.n else setX (cutKD (setD K m { D with refs := D.refs - 1 }) m) D.n (s.closed (decide (D.kind = 4)))
      | none => cutKD (setD K m { D with refs := D.refs - 1 }) m)
    else cutKD (setD K m { D with refs := D.refs - 1 }) m
theorem upX_same (B : Ix → Nat → Prop) (i : Ix) : upX B i (B i) = B := by
  funext j g
  unfold upX
  split
  · rename_i e; rw [e]
  · rfl
section
variable {w w' : World} {B : Ix → Nat → Prop} {q : Nat} {K : Ker} {M : Mp} {c : Nat}
theorem turn_dc (h : KerIs w B q K M) {n : Nat} {D D' : Dsc} (hD : ask K.descs n = some D) (i : Nat) (v : Value) (hc : (dcells M.bx D).toArray.setIfInBounds i v = (dcells M.bx D').toArray) : KerIs (w.setCell ⟨M.bd n, i, none⟩ v) B q (setD K n D') M := by
  obtain ⟨hB, hS⟩ : DscAt M.bx w (B (.desc n)) (M.bd n) D := h.part (.desc n) D hD
  have k := h.turn (.desc n) (S := B (.desc n)) (K' := setD K n D') (M' := M) (w' := w.setCell ⟨M.bd n, i, none⟩ v) (fun g hg => .inl hg) (fun g hg => by simpa using h.lt _ _ hg) ((Frm.refl _ _).setCell (a := ⟨M.bd n, i, none⟩) (.inl hS) v)
    (fun Q hQ => by
      have h1 : ask (put1 K.descs n D') n = some Q := hQ
      rw [ask_put hD, if_pos rfl] at h1
      cases h1
      exact ⟨by rw [← hc]; exact hB.set_ i v, hS⟩) (fun j hj hp => by
      cases j with
      | own =>
        obtain ⟨xv, dv, rv, o1, o2, k⟩ := hp
        exact ⟨xv, dv, rv, o1, o2, k.blk, k.rx, by
          show World.ownsRow _ 0 _ 2 dv (put1 K.descs n D').length (flat rcs (rowsOf (put1 K.descs n D') M.bd))
          rw [put1_len, put1_rows]; exact k.rd, k.rr, k.p1, k.p2, k.sq, k.sx, k.sd, k.sr, k.s1, k.s2, k.ne⟩
      | fs => exact hp
      | pipe m => exact hp
      | proc m => exact hp
      | desc m =>
        intro Q hQ
        have h1 : ask (put1 K.descs n D') m = some Q := hQ
        rw [ask_put hD, if_neg (fun e => hj (by rw [e]))] at h1
        exact hp Q h1) (nmbD h.num n D')
  rw [upX_same] at k
  exact k
theorem turn_X (h : KerIs w B q K M) {n : Nat} {s s' : Pp.St} (hs : ask K.pipes n = some s) (h' : PipAt w' (B (.pipe n)) (M.bx n) s') (hF : Frm (B (.pipe n)) w w') : KerIs w' B q (setX K n s') M := by
  have k := h.turn (.pipe n) (S := B (.pipe n)) (K' := setX K n s') (M' := M) (w' := w') (fun g hg => .inl hg) (fun g hg => Nat.lt_of_lt_of_le (h.lt _ _ hg) hF.size) hF
    (fun Q hQ => by
      have h1 : ask (put1 K.pipes n s') n = some Q := hQ
      rw [ask_put hs, if_pos rfl] at h1
      cases h1
      exact h') (fun j hj hp => by
      cases j with
      | own =>
        obtain ⟨xv, dv, rv, o1, o2, k⟩ := hp
        exact ⟨xv, dv, rv, o1, o2, k.blk, by
          show World.ownsRow _ 0 _ 2 xv (put1 K.pipes n s').length (flat rcs (rowsOf (put1 K.pipes n s') M.bx))
          rw [put1_len, put1_rows]; exact k.rx, k.rd, k.rr, k.p1, k.p2, k.sq, k.sx, k.sd, k.sr, k.s1, k.s2, k.ne⟩
      | fs => exact hp
      | desc m => exact hp
      | proc m => exact hp
      | pipe m =>
        intro Q hQ
        have h1 : ask (put1 K.pipes n s') m = some Q := hQ
        rw [ask_put hs, if_neg (fun e => hj (by rw [e]))] at h1
        exact hp Q h1) (nmbX h.num n s')
  rw [upX_same] at k
  exact k
/-- The description is gone: its block still holds what it held. -/
structure LetAt (w0 : World) (B0 : Ix → Nat → Prop) (q : Nat) (K : Ker) (M : Mp) (m d : Nat) (D : Dsc) (W : World) : Prop where
  is_ : ∃ B', KerIs W B' q K M ∧ (∀ g, AllX B' g → AllX B0 g ∨ w0.heap.size ≤ g) ∧ (∀ j, j ≠ .own → B' j = B0 j)
  frm : Frm (AllX B0) w0 W
  blk : Blk W d 91 (dcells M.bx D).toArray
  at_ : B0 (.desc m) d
theorem LetAt.kp {w0 W : World} {B0 : Ix → Nat → Prop} {K0 : Ker} {m d : Nat} {D : Dsc} (h : LetAt w0 B0 q K M m d D W) (h1 : K0.lastX ≤ K.lastX) (h2 : K0.lastD ≤ K.lastD) (h3 : K0.lastR ≤ K.lastR) : KP (AllX B0) w0 K0 M W q K := by
  obtain ⟨B', k1, k2, k3⟩ := h.is_
  exact ⟨B', M, k1, MExt.refl _ _, h1, h2, h3, k2, h.frm⟩
set_option maxRecDepth 100000 in
set_option maxHeartbeats 8000000 in
theorem letGo_any (h : KerIs w B q K M) (hw : WF c K.fs) (hc : c ≤ 5000) {m : Nat} {D : Dsc} (hD : ask K.descs m = some D) (hr : -1000000 ≤ D.refs ∧ D.refs ≤ 1000000)
    (hp : D.kind = 3 ∨ D.kind = 4 → ∃ s, D.pipe = some D.n ∧ ask K.pipes D.n = some s ∧ s.r ≤ 1000000 ∧ s.t ≤ 1000000) :
    Calls Tryz.prog 160 #[.pointer (some ⟨q, 0, none⟩), .int .i64 m] w fun e w' => e = .returned (.tuple #[]) ∧ KP (AllX B) w K M w' q (letM K m) := by
  obtain ⟨hB, hS⟩ : DscAt M.bx w (B (.desc m)) (M.bd m) D := h.part (.desc m) D hD
  have hg := getD_any h (m : Int)
  have hask : askI K.descs (m : Int) = some m := by unfold askI; rw [if_pos (by omega), Int.toNat_natCast, hD]; rfl
  rw [hask] at hg
  have hturn := Lib.hid (fun (W : World) (hW : Below w.heap.size w W) => turn_dc (h.below hW) hD 3 (.int .i64 (D.refs - 1)) (D' := { D with refs := D.refs - 1 }) rfl)
  obtain ⟨d, hd⟩ : ∃ d, M.bd m = d := ⟨_, rfl⟩
  rw [hd] at hB hS hturn
  have hgH : Hid (Calls Tryz.prog 189 #[.pointer (some ⟨q, 3, none⟩), .int .i64 m] w fun e w' => e = .returned (.pointer (some ⟨d, 0, none⟩)) ∧ Below w.heap.size w w') := Lib.hid (by rw [← hd]; exact hg)
  have hBH := Lib.hid hB
  have hSH := Lib.hid hS
  have hH := Lib.hid h
  have hDH := Lib.hid hD
  have hwH := Lib.hid hw
  have hpH := Lib.hid hp
  have hlt := hB.lt
  by_cases hpos : 0 < D.refs - 1
  · have hl : letM K m = setD K m { D with refs := D.refs - 1 } := by unfold letM; rw [hD]; dsimp only; rw [if_pos hpos]
    rw [hl]
    have d1 : decide (1 < D.refs) = true := decide_eq_true (by omega)
    obtain ⟨rf, hrf⟩ : ∃ rf, D.refs = rf := ⟨_, rfl⟩
    have c3 : w.cell? ⟨d, 3, none⟩ = some (.int .i64 rf) := by rw [← hrf]; exact hB.cell 3
    rw [hrf] at d1 hr hpos
    have hrfH := Lib.hid hrf
    have k3 := Lib.hid c3
    clear h hg hask hd hB hS hD hw hp hl c3 hrf
    go_enter Tryz.func160, Tryz.ntmps160
    go_wp2_with (go_at_call 189; refine hgH.out.mono ?_; rintro e w1 ⟨rfl, hb⟩; have e3 : w1.cell? ⟨d, 3, none⟩ = some (.int .i64 rf) := (hb.cell hlt).trans k3.out; have f3 : w1.frozen? ⟨d, 3, none⟩ = false := (hBH.out.keep (hb.block d hlt)).frozen 3; have hbH := Lib.hid hb; clear hb)
    refine bodyPost_ret (results_none rfl _ _ _) rfl ?_
    have ht := hturn.out _ hbH.out
    rw [hrfH.out] at ht
    rw [hrfH.out]
    exact ⟨rfl, B, M, ht, MExt.refl _ _, Nat.le_refl _, Nat.le_refl _, Nat.le_refl _, fun g hg => .inl hg, (Frm.of_below hbH.out).setCell (a := ⟨d, 3, none⟩) (.inl ⟨_, hSH.out⟩) _⟩
  · have d1 : decide (1 < D.refs) = false := decide_eq_false (by omega)
    obtain ⟨rf, hrf⟩ : ∃ rf, D.refs = rf := ⟨_, rfl⟩
    have c3 : w.cell? ⟨d, 3, none⟩ = some (.int .i64 rf) := by rw [← hrf]; exact hB.cell 3
    rw [hrf] at d1 hr
    have hrfH := Lib.hid hrf
    have hposH := Lib.hid hpos
    have k3 := Lib.hid c3
    have hnums : Hid (K.lastX ≤ K.lastX) := Lib.hid (Nat.le_refl _)
    obtain ⟨K2, hK2⟩ : ∃ K2, cutKD (setD K m { D with refs := D.refs - 1 }) m = K2 := ⟨_, rfl⟩
    have hfs2 : Hid (K2.fs = K.fs ∧ K2.pipes = K.pipes ∧ K2.lastX = K.lastX ∧ K2.lastD = K.lastD ∧ K2.lastR = K.lastR) := Lib.hid (by rw [← hK2]; exact ⟨rfl, rfl, rfl, rfl, rfl⟩)
    have hlet : Hid (letM K m = if D.kind = 2 then setF K2 (DropM K.fs D.n).2 else if D.kind = 3 ∨ D.kind = 4 then (match ask K.pipes D.n with
      | some s => if (s.closed (decide (D.kind = 4))).r + (s.closed (decide (D.kind = 4))).t = 0 then cutKX (setX K2 D.n (s.closed (decide (D.kind = 4)))) D.n else setX K2 D.n (s.closed (decide (D.kind = 4)))
      | none => K2) else K2) := Lib.hid (by
        unfold letM
        rw [hD]
        dsimp only
        rw [if_neg hpos, hK2])
    have hK2H := Lib.hid hK2
    clear h hg hask hd hB hS hD hw hp c3 hrf hpos hK2
    go_enter Tryz.func160, Tryz.ntmps160
    go_upto_region 3 with (go_at_call 189; refine hgH.out.mono ?_; rintro e w1 ⟨rfl, hb⟩; have e3 : w1.cell? ⟨d, 3, none⟩ = some (.int .i64 rf) := (hb.cell hlt).trans k3.out; have f3 : w1.frozen? ⟨d, 3, none⟩ = false := (hBH.out.keep (hb.block d hlt)).frozen 3; have hbH := Lib.hid hb; clear hb)
    have ht := hturn.out _ hbH.out
    rw [hrfH.out] at ht
    have hBd1 : Blk (w1.setCell ⟨d, 3, none⟩ (.int .i64 (rf - 1))) d 91 (dcells M.bx { D with refs := rf - 1 }).toArray := by
      have := (hBH.out.keep (hbH.out.block d hlt)).set_ 3 (.int .i64 (rf - 1))
      exact this
    have hF1 : Frm (AllX B) w (w1.setCell ⟨d, 3, none⟩ (.int .i64 (rf - 1))) := (Frm.of_below hbH.out).setCell (a := ⟨d, 3, none⟩) (.inl ⟨_, hSH.out⟩) _
    obtain ⟨W2, hW2⟩ : ∃ W, w1.setCell ⟨d, 3, none⟩ (.int .i64 (rf - 1)) = W := ⟨_, rfl⟩
    rw [hW2] at ht hBd1 hF1 ⊢
    have hcut := Lib.hid (cutD_any ht m)
    have htH := Lib.hid ht
    have hBdH := Lib.hid hBd1
    have hFH := Lib.hid hF1
    clear hW2 ht hBd1 hF1 e3 f3 hturn hgH
    go_upto_region 4 with (go_at_call 227; refine hcut.out.mono ?_; rintro e w3 ⟨rfl, B3, hk3, ho3, hF3, hj3⟩
                           have hL : LetAt w B q K2 M m d { D with refs := rf - 1 } w3 := by
                             refine ⟨⟨B3, by rw [← hK2H.out, hrfH.out]; exact hk3, fun g hg => (ho3 g hg).imp_right (fun h9 => Nat.le_trans hFH.out.size h9), hj3⟩, hFH.out.trans (fun g hg => .inl ⟨_, hg⟩) hF3, hBdH.out.keep (hF3.block d hBdH.out.lt (fun hh => by
                               have := hH.out.apart _ _ _ hh hSH.out
                               cases this)), hSH.out⟩
                           have hLH := Lib.hid hL; clear hL hk3 ho3 hF3 hj3)
    have c0 : w3.cell? ⟨d, 0, none⟩ = some (.int .i64 D.kind) := hLH.out.blk.cell 0
    have c1 : w3.cell? ⟨d, 1, none⟩ = some (.int .i64 D.n) := hLH.out.blk.cell 1
    have hkp : Hid (∀ (w4 : World) (B3 : Ix → Nat → Prop) (K4 : Ker), (∀ g, AllX B3 g → AllX B g ∨ w.heap.size ≤ g) → KP (AllX B3) w3 K2 M w4 q K4 → KP (AllX B) w K M w4 q K4) := Lib.hid (fun w4 B3 K4 h1 h2 => KP.trans h1 hLH.out.frm (MExt.refl _ _) (by rw [hfs2.out.2.2.1]; exact Nat.le_refl _) (by rw [hfs2.out.2.2.2.1]; exact Nat.le_refl _) (by rw [hfs2.out.2.2.2.2]; exact Nat.le_refl _) h2)
    clear hcut
    by_cases hk2 : D.kind = 2
    · have hl2 : Hid (letM K m = setF K2 (DropM K.fs D.n).2) := Lib.hid (by rw [hlet.out, if_pos hk2])
      clear hlet
      obtain ⟨B3, h3, ho3, hj3⟩ := hLH.out.is_
      have hdrop := Lib.hid (fun (W : World) (hW : Below w3.heap.size w3 W) => fDrop_any (h3.below hW) (by rw [hfs2.out.1]; exact hwH.out) hc (D.n : Int))
      obtain ⟨xv, dv, rv, o1, o2, hbk⟩ := h3.blkK
      have q0 : w3.cell? ⟨q, 0, none⟩ = some (.pointer (some ⟨M.fp, 0, none⟩)) := hbk.cell 0
      have q0d : w3.drew.cell? ⟨q, 0, none⟩ = some (.pointer (some ⟨M.fp, 0, none⟩)) := q0
      have c1d : w3.drew.cell? ⟨d, 1, none⟩ = some (.int .i64 D.n) := c1
      have ho3H := Lib.hid ho3
      have hfsD : Hid ((DropM K2.fs D.n).2 = (DropM K.fs D.n).2) := Lib.hid (by rw [hfs2.out.1])
      rw [hk2] at c0
      clear h3 ho3 hj3 hbk hk2
      go_upto_region 6 with fail
      go_region_with (first | (go_at_call 228; refine (hdrop.out _ (Below.refl _ _).drew).mono ?_; rintro e w4 ⟨rfl, hk4⟩; have hk4H := Lib.hid hk4; clear hk4) | (go_at_call 228; refine (hdrop.out _ (Below.refl _ _)).mono ?_; rintro e w4 ⟨rfl, hk4⟩; have hk4H := Lib.hid hk4; clear hk4))
      all_goals
        go_wp2_with fail
        first | go_end0 | refine bodyPost_ret (results_none rfl _ _ _) rfl ?_
        rw [hl2.out]
        refine ⟨rfl, hkp.out _ B3 _ ho3H.out ?_⟩
        have h5 := hk4H.out
        rw [hfsD.out] at h5
        obtain ⟨B5, M5, k1, k2, k3, k4, k5, k6, k7⟩ := h5
        exact ⟨B5, M5, k1, k2, k3, k4, k5, k6, ⟨k7.os, k7.tape, k7.output, k7.size, k7.block⟩⟩
    · by_cases hk34 : D.kind = 3 ∨ D.kind = 4
      · obtain ⟨s, hpi, hask2, hsr, hst⟩ := hpH.out hk34
        obtain ⟨B3, h3, ho3, hj3⟩ := hLH.out.is_
        have hask3 : ask K2.pipes D.n = some s := by rw [hfs2.out.2.1]; exact hask2
        obtain ⟨rb, hPi, hSP, hSR⟩ : PipAt w3 (B3 (.pipe D.n)) (M.bx D.n) s := h3.part (.pipe D.n) s hask3
        obtain ⟨P, hPe⟩ : ∃ P, M.bx D.n = P := ⟨_, rfl⟩
        rw [hPe] at hPi hSP
        have hdP : d ≠ P := fun e => by
          have h8 : B3 (.desc m) d := by rw [hj3 _ (by simp)]; exact hLH.out.at_
          have := h3.apart _ _ _ h8 (e ▸ hSP)
          cases this
        have hdR : d ≠ rb := fun e => by
          have h8 : B3 (.desc m) d := by rw [hj3 _ (by simp)]; exact hLH.out.at_
          have := h3.apart _ _ _ h8 (e ▸ hSR)
          cases this
        have c5 : w3.cell? ⟨d, 5, none⟩ = some (.pointer (some ⟨P, 0, none⟩)) := by
          have := hLH.out.blk.cell 5
          rw [this, ← hPe]
          show some (ptrV (D.pipe.map M.bx)) = _
          rw [hpi]; rfl
        obtain ⟨b, hb⟩ : ∃ b, decide (D.kind = 4) = b := ⟨_, rfl⟩
        have hclose := Lib.hid (fun (W : World) (hW : Below w3.heap.size w3 W) => Pp.close_any (P := P) (B := rb) (s := s) b W (hPi.keep ⟨hW.block P (h3.lt _ _ hSP), hW.block rb (h3.lt _ _ hSR)⟩) (by omega) (by omega))
        have hl2 : Hid (letM K m = if (s.closed b).r + (s.closed b).t = 0 then cutKX (setX K2 D.n (s.closed b)) D.n else setX K2 D.n (s.closed b)) := Lib.hid (by rw [hlet.out, if_neg hk2, if_pos hk34, hask2, ← hb])
        clear hlet
        have hx4 := Lib.hid (fun (W : World) (h1 : Pp.PipeAt W P rb (s.closed b)) (h2 : Pp.Frame P rb w3 W) => turn_X (w' := W) h3 hask3 (s' := s.closed b) (by rw [hPe]; exact ⟨rb, h1, hSP, hSR⟩) (frm_of_pp h2 hSP hSR))
        have hfrx := Lib.hid (fun (W : World) (h2 : Pp.Frame P rb w3 W) => (frm_of_pp h2 (S := AllX B3) ⟨_, hSP⟩ ⟨_, hSR⟩))
        have hbd : Below w3.heap.size w3 w3.drew := (Below.refl _ _).drew
        have hBw3 := Lib.hid hLH.out.blk
        have ho3H := Lib.hid ho3
        clear h3 ho3 hj3 hPi hPe hpi hask2 hask3 hSP hSR
        rcases hk34 with e34 | e34
        · obtain rfl : b = false := by rw [← hb, e34]; rfl
          rw [e34] at c0
          have c0d : w3.drew.cell? ⟨d, 0, none⟩ = some (.int .i64 ((3 : Nat) : Int)) := c0
          have c5d : w3.drew.cell? ⟨d, 5, none⟩ = some (.pointer (some ⟨P, 0, none⟩)) := c5
          clear hb hk2 e34
          go_upto_region 9 with fail
          go_region_held3 (fun Z => Z.cell? ⟨d, 0, none⟩ = some (.int .i64 ((3 : Nat) : Int)) ∧ Z.cell? ⟨d, 5, none⟩ = some (.pointer (some ⟨P, 0, none⟩))) (first | exact ⟨c0, c5⟩ | exact ⟨c0d, c5d⟩ | exact ⟨u0, u5⟩ | go_keep | fail)
            ((first
              | (go_at_call 229; refine (hclose.out _ hbd).mono ?_; rintro e w4 ⟨rfl, hP4, hF4⟩
                 have hblk4 : Blk w4 d 91 (dcells M.bx { D with refs := rf - 1 }).toArray := hBw3.out.keep (hF4.block d hBw3.out.lt hdP hdR)
                 have u0 : w4.cell? ⟨d, 0, none⟩ = some (.int .i64 ((3 : Nat) : Int)) := (World.cell?_of_block (hF4.block d hBw3.out.lt hdP hdR)).trans c0
                 have u5 : w4.cell? ⟨d, 5, none⟩ = some (.pointer (some ⟨P, 0, none⟩)) := (World.cell?_of_block (hF4.block d hBw3.out.lt hdP hdR)).trans c5
                 have u1 : w4.cell? ⟨d, 1, none⟩ = some (.int .i64 D.n) := hblk4.cell 1
                 have hP4H := Lib.hid hP4
                 have hF4H : Hid (Pp.Frame P rb w3 w4) := Lib.hid ⟨hF4.os, hF4.tape, hF4.output, hF4.size, hF4.block⟩
                 clear hP4 hF4 hblk4)
              | fail))
          all_goals
            have hturn4 := hx4.out _ hP4H.out hF4H.out
            have hends := Lib.hid (Pp.endsOf_any w4 hP4H.out)
            have hsr2 : (s.closed false).r ≤ 1000000 := by show s.r - 1 ≤ _; omega
            have hst2 : (s.closed false).t ≤ 1000000 := by show s.t ≤ _; omega
            obtain ⟨s', hs'⟩ : ∃ s', s.closed false = s' := ⟨_, rfl⟩
            rw [hs'] at hturn4 hends hl2 hsr2 hst2
            have hcutx := Lib.hid (fun (n0 : Nat) => cutX_any (w := w4.drewN n0) (hturn4.keep (Nat.le_refl _) (fun _ _ _ => rfl)) D.n)
            have hcutx1 := Lib.hid (fun (n0 : Nat) => cutX_any (w := (w4.drewN n0).drew) (hturn4.keep (Nat.le_refl _) (fun _ _ _ => rfl)) D.n)
            have hturn4H := Lib.hid hturn4
            have hsz4 : w3.heap.size ≤ w4.heap.size := hF4H.out.size
            have hfr4 : Frm (AllX B3) w3 w4 := hfrx.out _ hF4H.out
            have hfr4H := Lib.hid hfr4
            clear hturn4 hfr4 hs'
            by_cases hz : s'.r + s'.t = 0
            · have hl3 : Hid (letM K m = cutKX (setX K2 D.n s') D.n) := Lib.hid (by rw [hl2.out, if_pos hz])
              have z1 : ((s'.r : Int) + (s'.t : Int) == 0) = true := by rw [beq_iff_eq]; omega
              go_upto_region 12 with (go_at_call 93; refine hends.out.mono ?_; rintro e w5 ⟨rfl, n5, rfl⟩; have v1 : (w4.drewN n5).cell? ⟨d, 1, none⟩ = some (.int .i64 D.n) := u1; have v1d : (w4.drewN n5).drew.cell? ⟨d, 1, none⟩ = some (.int .i64 D.n) := u1)
              go_region_with (first
                | (go_at_call 230; refine (hcutx1.out _).mono ?_; rintro e w6 ⟨rfl, B6, hk6, ho6, hF6, _⟩; have hk6H := Lib.hid hk6; have ho6H := Lib.hid ho6; have hF6H := Lib.hid hF6; clear hk6 ho6 hF6)
                | (go_at_call 230; refine (hcutx.out _).mono ?_; rintro e w6 ⟨rfl, B6, hk6, ho6, hF6, _⟩; have hk6H := Lib.hid hk6; have ho6H := Lib.hid ho6; have hF6H := Lib.hid hF6; clear hk6 ho6 hF6))
              all_goals
                go_wp2_with fail
                first | go_end0 | refine bodyPost_ret (results_none rfl _ _ _) rfl ?_
                rw [hl3.out]
                refine ⟨rfl, hkp.out _ B3 _ ho3H.out ?_⟩
                have hF6' : Frm (B3 .own) w4 w6 := ⟨hF6H.out.os, hF6H.out.tape, hF6H.out.output, hF6H.out.size, hF6H.out.block⟩
                exact ⟨B6, M, hk6H.out, MExt.refl _ _, Nat.le_refl _, Nat.le_refl _, Nat.le_refl _, fun g hg => (ho6H.out g hg).imp_right (fun h9 => Nat.le_trans hsz4 h9), hfr4H.out.trans (fun g hg => .inl ⟨_, hg⟩) hF6'⟩
            · have hl3 : Hid (letM K m = setX K2 D.n s') := Lib.hid (by rw [hl2.out, if_neg hz])
              have z1 : ((s'.r : Int) + (s'.t : Int) == 0) = false := by rw [beq_eq_false_iff_ne]; omega
              go_wp2_with (go_at_call 93; refine hends.out.mono ?_; rintro e w5 ⟨rfl, n5, rfl⟩)
              first | go_end0 | refine bodyPost_ret (results_none rfl _ _ _) rfl ?_
              rw [hl3.out]
              refine ⟨rfl, hkp.out _ B3 _ ho3H.out ?_⟩
              exact ⟨B3, M, hturn4H.out.keep (Nat.le_refl _) (fun _ _ _ => rfl), MExt.refl _ _, Nat.le_refl _, Nat.le_refl _, Nat.le_refl _, fun g hg => .inl hg, ⟨hfr4H.out.os, hfr4H.out.tape, hfr4H.out.output, hfr4H.out.size, hfr4H.out.block⟩⟩
        · obtain rfl : b = true := by rw [← hb, e34]; rfl
          rw [e34] at c0
          have c0d : w3.drew.cell? ⟨d, 0, none⟩ = some (.int .i64 ((4 : Nat) : Int)) := c0
          have c5d : w3.drew.cell? ⟨d, 5, none⟩ = some (.pointer (some ⟨P, 0, none⟩)) := c5
          clear hb hk2 e34
          go_upto_region 9 with fail
          go_region_held3 (fun Z => Z.cell? ⟨d, 0, none⟩ = some (.int .i64 ((4 : Nat) : Int)) ∧ Z.cell? ⟨d, 5, none⟩ = some (.pointer (some ⟨P, 0, none⟩))) (first | exact ⟨c0, c5⟩ | exact ⟨c0d, c5d⟩ | exact ⟨u0, u5⟩ | go_keep | fail)
            ((first
              | (go_at_call 229; refine (hclose.out _ hbd).mono ?_; rintro e w4 ⟨rfl, hP4, hF4⟩
                 have hblk4 : Blk w4 d 91 (dcells M.bx { D with refs := rf - 1 }).toArray := hBw3.out.keep (hF4.block d hBw3.out.lt hdP hdR)
                 have u0 : w4.cell? ⟨d, 0, none⟩ = some (.int .i64 ((4 : Nat) : Int)) := (World.cell?_of_block (hF4.block d hBw3.out.lt hdP hdR)).trans c0
                 have u5 : w4.cell? ⟨d, 5, none⟩ = some (.pointer (some ⟨P, 0, none⟩)) := (World.cell?_of_block (hF4.block d hBw3.out.lt hdP hdR)).trans c5
                 have u1 : w4.cell? ⟨d, 1, none⟩ = some (.int .i64 D.n) := hblk4.cell 1
                 have hP4H := Lib.hid hP4
                 have hF4H : Hid (Pp.Frame P rb w3 w4) := Lib.hid ⟨hF4.os, hF4.tape, hF4.output, hF4.size, hF4.block⟩
                 clear hP4 hF4 hblk4)
              | fail))
          all_goals
            have hturn4 := hx4.out _ hP4H.out hF4H.out
            have hends := Lib.hid (Pp.endsOf_any w4 hP4H.out)
            have hsr2 : (s.closed true).r ≤ 1000000 := by show s.r ≤ _; omega
            have hst2 : (s.closed true).t ≤ 1000000 := by show s.t - 1 ≤ _; omega
            obtain ⟨s', hs'⟩ : ∃ s', s.closed true = s' := ⟨_, rfl⟩
            rw [hs'] at hturn4 hends hl2 hsr2 hst2
            have hcutx := Lib.hid (fun (n0 : Nat) => cutX_any (w := w4.drewN n0) (hturn4.keep (Nat.le_refl _) (fun _ _ _ => rfl)) D.n)
            have hcutx1 := Lib.hid (fun (n0 : Nat) => cutX_any (w := (w4.drewN n0).drew) (hturn4.keep (Nat.le_refl _) (fun _ _ _ => rfl)) D.n)
            have hturn4H := Lib.hid hturn4
            have hsz4 : w3.heap.size ≤ w4.heap.size := hF4H.out.size
            have hfr4 : Frm (AllX B3) w3 w4 := hfrx.out _ hF4H.out
            have hfr4H := Lib.hid hfr4
            clear hturn4 hfr4 hs'
            by_cases hz : s'.r + s'.t = 0
            · have hl3 : Hid (letM K m = cutKX (setX K2 D.n s') D.n) := Lib.hid (by rw [hl2.out, if_pos hz])
              have z1 : ((s'.r : Int) + (s'.t : Int) == 0) = true := by rw [beq_iff_eq]; omega
              go_upto_region 12 with (go_at_call 93; refine hends.out.mono ?_; rintro e w5 ⟨rfl, n5, rfl⟩; have v1 : (w4.drewN n5).cell? ⟨d, 1, none⟩ = some (.int .i64 D.n) := u1; have v1d : (w4.drewN n5).drew.cell? ⟨d, 1, none⟩ = some (.int .i64 D.n) := u1)
              go_region_with (first
                | (go_at_call 230; refine (hcutx1.out _).mono ?_; rintro e w6 ⟨rfl, B6, hk6, ho6, hF6, _⟩; have hk6H := Lib.hid hk6; have ho6H := Lib.hid ho6; have hF6H := Lib.hid hF6; clear hk6 ho6 hF6)
                | (go_at_call 230; refine (hcutx.out _).mono ?_; rintro e w6 ⟨rfl, B6, hk6, ho6, hF6, _⟩; have hk6H := Lib.hid hk6; have ho6H := Lib.hid ho6; have hF6H := Lib.hid hF6; clear hk6 ho6 hF6))
              all_goals
                go_wp2_with fail
                first | go_end0 | refine bodyPost_ret (results_none rfl _ _ _) rfl ?_
                rw [hl3.out]
                refine ⟨rfl, hkp.out _ B3 _ ho3H.out ?_⟩
                have hF6' : Frm (B3 .own) w4 w6 := ⟨hF6H.out.os, hF6H.out.tape, hF6H.out.output, hF6H.out.size, hF6H.out.block⟩
                exact ⟨B6, M, hk6H.out, MExt.refl _ _, Nat.le_refl _, Nat.le_refl _, Nat.le_refl _, fun g hg => (ho6H.out g hg).imp_right (fun h9 => Nat.le_trans hsz4 h9), hfr4H.out.trans (fun g hg => .inl ⟨_, hg⟩) hF6'⟩
            · have hl3 : Hid (letM K m = setX K2 D.n s') := Lib.hid (by rw [hl2.out, if_neg hz])
              have z1 : ((s'.r : Int) + (s'.t : Int) == 0) = false := by rw [beq_eq_false_iff_ne]; omega
              go_wp2_with (go_at_call 93; refine hends.out.mono ?_; rintro e w5 ⟨rfl, n5, rfl⟩)
              first | go_end0 | refine bodyPost_ret (results_none rfl _ _ _) rfl ?_
              rw [hl3.out]
              refine ⟨rfl, hkp.out _ B3 _ ho3H.out ?_⟩
              exact ⟨B3, M, hturn4H.out.keep (Nat.le_refl _) (fun _ _ _ => rfl), MExt.refl _ _, Nat.le_refl _, Nat.le_refl _, Nat.le_refl _, fun g hg => .inl hg, ⟨hfr4H.out.os, hfr4H.out.tape, hfr4H.out.output, hfr4H.out.size, hfr4H.out.block⟩⟩
      · have hl2 : Hid (letM K m = K2) := Lib.hid (by rw [hlet.out, if_neg hk2, if_neg hk34])
        clear hlet
        have e2 : ((D.kind : Int) == 2) = false := by rw [beq_eq_false_iff_ne]; omega
        have e3 : ((D.kind : Int) == 3) = false := by rw [beq_eq_false_iff_ne]; omega
        have e4 : ((D.kind : Int) == 4) = false := by rw [beq_eq_false_iff_ne]; omega
        obtain ⟨kd, hkd⟩ : ∃ kd, (D.kind : Int) = kd := ⟨_, rfl⟩
        rw [hkd] at c0 e2 e3 e4
        clear hk2 hk34 hkd
        go_wp2_with fail
        first | go_end0 | refine bodyPost_ret (results_none rfl _ _ _) rfl ?_
        rw [hl2.out]
        exact ⟨rfl, hLH.out.kp (by rw [hfs2.out.2.2.1]; exact Nat.le_refl _) (by rw [hfs2.out.2.2.2.1]; exact Nat.le_refl _) (by rw [hfs2.out.2.2.2.2]; exact Nat.le_refl _)⟩
end
end Go.Proofs.YtmilagppbepnbaaGreat.Kn
/- The kernel: close, dup, dup2, text. Condition: it lies as stated; what a descriptor names is there. -/
namespace Go.Proofs.YtmilagppbepnbaaGreat.Kn
open Go.RowKit Go.PlainAid
set_option linter.unusedVariables false
set_option linter.unusedSimpArgs false
attribute [local go_sem] Oper.semAt_some
/-- What letGo wants of a description. -/
def LetOK (K : Ker) (m : Nat) : Prop := ∃ D, ask K.descs m = some D ∧ (-1000000 ≤ D.refs ∧ D.refs ≤ 1000000) ∧ (D.kind = 3 ∨ D.kind = 4 → ∃ s, D.pipe = some D.n ∧ ask K.pipes D.n = some s ∧ s.r ≤ 1000000 ∧ s.t ≤ 1000000)
def closeM (K : Ker) (n : Nat) (P : Prc) (fd : Int) : Ker := if (tcutM P.tab fd).2.1 = 0 then letM (setR K n { P with tab := (tcutM P.tab fd).2.2 }) (tcutM P.tab fd).1.toNat else K
theorem put1_same {X : Type} {l : List (Nat × X)} (h : OrdK l) {n : Nat} {x : X} (ha : ask l n = some x) : put1 l n x = l := by
  unfold put1
  conv => rhs; rw [← List.map_id l]
  refine List.map_congr_left (fun p hp => ?_)
  split
  · rename_i e
    have := ask_of h (show (p.1, p.2) ∈ l from hp)
    rw [e, ha] at this
    cases this
    show (n, p.2) = p
    rw [← e]
  · rfl
section
variable {w w' : World} {B : Ix → Nat → Prop} {q : Nat} {K : Ker} {M : Mp} {c : Nat}
theorem setR_same (h : KerIs w B q K M) {n : Nat} {P : Prc} (hP : ask K.procs n = some P) : setR K n P = K := by unfold setR; rw [put1_same h.num.or_ hP]
theorem tcut_err {f : Nat → Pp.Sl} {fd : Int} (h : (tcutM f fd).2.1 ≠ 0) : (tcutM f fd).2.2 = f := by
  unfold tcutM at h ⊢
  split
  · rename_i h1
    rw [if_pos h1] at h
    split
    · rename_i h2; rw [if_pos h2] at h; exact absurd rfl h
    · rfl
  · rfl
theorem turn_T (h : KerIs w B q K M) {n : Nat} {P : Prc} (hP : ask K.procs n = some P) {f : Nat → Pp.Sl} (hT : Pp.TabAt w' (M.bt n) f) (hF : Pp.Frame (M.bt n) (M.bt n) w w') : KerIs w' B q (setR K n { P with tab := f }) M := by
  obtain ⟨hB, _, hS1, hS2, hne⟩ : PrcAt w (B (.proc n)) (M.br n) (M.bt n) P := h.part (.proc n) P hP
  have hbr : w'.heap[M.br n]? = w.heap[M.br n]? := hF.block _ (h.lt _ _ hS1) (fun e => hne e.symm) (fun e => hne e.symm)
  have k := h.turn (.proc n) (S := B (.proc n)) (K' := setR K n { P with tab := f }) (M' := M) (w' := w') (fun g hg => .inl hg) (fun g hg => Nat.lt_of_lt_of_le (h.lt _ _ hg) hF.size) (frm_of_pp hF hS2 hS2)
    (fun Q hQ => by
      have h1 : ask (put1 K.procs n { P with tab := f }) n = some Q := hQ
      rw [ask_put hP, if_pos rfl] at h1
      cases h1
      exact ⟨hB.keep hbr, hT, hS1, hS2, hne⟩) (fun j hj hp => by
      cases j with
      | own =>
        obtain ⟨xv, dv, rv, o1, o2, k⟩ := hp
        exact ⟨xv, dv, rv, o1, o2, k.blk, k.rx, k.rd, by
          show World.ownsRow _ 0 _ 2 rv (put1 K.procs n { P with tab := f }).length (flat rcs (rowsOf (put1 K.procs n { P with tab := f }) M.br))
          rw [put1_len, put1_rows]; exact k.rr, k.p1, k.p2, k.sq, k.sx, k.sd, k.sr, k.s1, k.s2, k.ne⟩
      | fs => exact hp
      | pipe m => exact hp
      | desc m => exact hp
      | proc m =>
        intro Q hQ
        have h1 : ask (put1 K.procs n { P with tab := f }) m = some Q := hQ
        rw [ask_put hP, if_neg (fun e => hj (by rw [e]))] at h1
        exact hp Q h1) (nmbR h.num n _)
  rw [upX_same] at k
  exact k
theorem frmT (h : KerIs w B q K M) {n : Nat} {P : Prc} (hP : ask K.procs n = some P) (hF : Pp.Frame (M.bt n) (M.bt n) w w') : Frm (AllX B) w w' := by
  obtain ⟨_, _, _, hS2, _⟩ : PrcAt w (B (.proc n)) (M.br n) (M.bt n) P := h.part (.proc n) P hP
  exact frm_of_pp hF ⟨_, hS2⟩ ⟨_, hS2⟩
set_option maxRecDepth 100000 in
set_option maxHeartbeats 4000000 in
theorem close_any (h : KerIs w B q K M) (hw : WF c K.fs) (hc : c ≤ 5000) {n : Nat} {P : Prc} (hP : ask K.procs n = some P) (fd : Int) (hok : (tcutM P.tab fd).2.1 = 0 → ∃ m : Nat, (tcutM P.tab fd).1 = m ∧ LetOK K m) :
    Calls Tryz.prog 140 #[.pointer (some ⟨q, 0, none⟩), .pointer (some ⟨M.br n, 0, none⟩), .int .i64 fd] w fun e w' => e = .returned (.int .i64 (tcutM P.tab fd).2.1) ∧ KP (AllX B) w K M w' q (closeM K n P fd) := by
  obtain ⟨hB, hT, hS1, hS2, hne⟩ : PrcAt w (B (.proc n)) (M.br n) (M.bt n) P := h.part (.proc n) P hP
  obtain ⟨b, hb⟩ : ∃ b, M.br n = b := ⟨_, rfl⟩
  obtain ⟨tb, htb⟩ : ∃ tb, M.bt n = tb := ⟨_, rfl⟩
  have hcut := Lib.hid (tabCut_any hT fd)
  rw [htb] at hB hcut
  rw [hb] at hB ⊢
  have c2 : w.cell? ⟨b, 2, none⟩ = some (.pointer (some ⟨tb, 0, none⟩)) := hB.cell 2
  have hH := Lib.hid h
  have hPH := Lib.hid hP
  have hwH := Lib.hid hw
  have htbH := Lib.hid htb
  by_cases he : (tcutM P.tab fd).2.1 = 0
  · obtain ⟨m, hm, D, hD, hr, hp⟩ := hok he
    have hl : Hid (closeM K n P fd = letM (setR K n { P with tab := (tcutM P.tab fd).2.2 }) m) := Lib.hid (by unfold closeM; rw [if_pos he, hm, Int.toNat_natCast])
    rw [he, hm] at hcut
    rw [he]
    obtain ⟨f', hf'⟩ : ∃ f', (tcutM P.tab fd).2.2 = f' := ⟨_, rfl⟩
    rw [hf'] at hcut hl
    have hDH := Lib.hid hD
    have hrH := Lib.hid hr
    have hpH := Lib.hid hp
    clear h hP hw htb hok he hm hD hp hb hB hT hS1 hS2 hne hf' hr
    go_enter Tryz.func140, Tryz.ntmps140
    go_upto_region 3 with (go_at_call 198; refine hcut.out.mono ?_; rintro e w1 ⟨rfl, hT1, hF1⟩; have hT1H := Lib.hid hT1; have hF1H := Lib.hid hF1; clear hT1 hF1)
    have hk1 := turn_T hH.out hPH.out (f := f') (by rw [htbH.out]; exact hT1H.out) (by rw [htbH.out]; exact hF1H.out)
    have hfr := frmT hH.out hPH.out (by rw [htbH.out]; exact hF1H.out)
    have hlet := Lib.hid (letGo_any (c := c) hk1 hwH.out hc (m := m) hDH.out hrH.out hpH.out)
    have hfrH := Lib.hid hfr
    clear hk1 hfr
    go_wp2_with (go_at_call 160; refine hlet.out.mono ?_; rintro e w2 ⟨rfl, hk2⟩; have hk2H := Lib.hid hk2; clear hk2)
    go_ret
    rw [hl.out]
    exact ⟨rfl, KP.trans (K1 := setR K n { P with tab := f' }) (fun g hg => .inl hg) hfrH.out (MExt.refl _ _) (Nat.le_refl _) (Nat.le_refl _) (Nat.le_refl _) hk2H.out⟩
  · have hl : Hid (closeM K n P fd = K) := Lib.hid (by unfold closeM; rw [if_neg he])
    have hsame : Hid (setR K n { P with tab := (tcutM P.tab fd).2.2 } = K) := Lib.hid (by rw [tcut_err he]; exact setR_same h hP)
    obtain ⟨f', hf'⟩ : ∃ f', (tcutM P.tab fd).2.2 = f' := ⟨_, rfl⟩
    obtain ⟨er, her⟩ : ∃ er, (tcutM P.tab fd).2.1 = er := ⟨_, rfl⟩
    rw [hf'] at hcut hsame
    rw [her] at hcut he ⊢
    have d0 : (er == 0) = false := beq_eq_false_iff_ne.2 he
    clear h hP hw htb hok hb hB hT hS1 hS2 hne hf' he her
    go_enter Tryz.func140, Tryz.ntmps140
    go_wp2_with (go_at_call 198; refine hcut.out.mono ?_; rintro e w1 ⟨rfl, hT1, hF1⟩; have hT1H := Lib.hid hT1; have hF1H := Lib.hid hF1; clear hT1 hF1)
    go_ret
    rw [hl.out]
    have hk1 := turn_T hH.out hPH.out (f := f') (by rw [htbH.out]; exact hT1H.out) (by rw [htbH.out]; exact hF1H.out)
    have hfr := frmT hH.out hPH.out (by rw [htbH.out]; exact hF1H.out)
    rw [hsame.out] at hk1
    exact ⟨rfl, B, M, hk1, MExt.refl _ _, Nat.le_refl _, Nat.le_refl _, Nat.le_refl _, fun g hg => .inl hg, hfr⟩
end
end Go.Proofs.YtmilagppbepnbaaGreat.Kn
/- The kernel: dup, text, newPipe. Condition: it lies as stated; what a descriptor names is there. -/
namespace Go.Proofs.YtmilagppbepnbaaGreat.Kn
open Go.RowKit Go.PlainAid
set_option linter.unusedVariables false
set_option linter.unusedSimpArgs false
attribute [local go_sem] Oper.semAt_some
def incM (K : Ker) (m : Nat) : Ker := match ask K.descs m with
  | some D => setD K m { D with refs := D.refs + 1 }
  | none => K
def dupM (K : Ker) (n : Nat) (P : Prc) (fd least : Int) : Int × Int × Ker :=
  if (tabM P.tab fd).2 ≠ 0 then (0, (tabM P.tab fd).2, K)
  else if (tputM P.tab (tabM P.tab fd).1 least).2.1 = 0 then ((tputM P.tab (tabM P.tab fd).1 least).1, 0, incM (setR K n { P with tab := (tputM P.tab (tabM P.tab fd).1 least).2.2 }) (tabM P.tab fd).1.toNat)
  else ((tputM P.tab (tabM P.tab fd).1 least).1, (tputM P.tab (tabM P.tab fd).1 least).2.1, K)
def textM (K : Ker) (n : Nat) (P : Prc) (s : ByteArray) : Int × Int × Ker :=
  if tfreeM P.tab = 0 then (0, 24, K) else ((tputM P.tab ((K.lastD : Int) + 1) 0).1, 0, instM K n P ⟨5, 0, 0, 0, 0, none, s⟩)
theorem tput_err {f : Nat → Pp.Sl} {x l : Int} (h : (tputM f x l).2.1 ≠ 0) : (tputM f x l).2.2 = f := by
  unfold tputM at h ⊢
  split
  · rename_i h1
    rw [if_pos h1] at h
    cases hf : ffree f (32 - l.toNat) l.toNat with
    | none => rfl
    | some j => rw [hf] at h; exact absurd rfl h
  · rfl
section
variable {w w' : World} {B : Ix → Nat → Prop} {q : Nat} {K : Ker} {M : Mp} {c : Nat}
set_option maxRecDepth 100000 in
set_option maxHeartbeats 4000000 in
theorem dup_any (h : KerIs w B q K M) {n : Nat} {P : Prc} (hP : ask K.procs n = some P) (fd least : Int) (hok : (tabM P.tab fd).2 = 0 → ∃ m : Nat, (tabM P.tab fd).1 = m ∧ ∃ D, ask K.descs m = some D ∧ (-1000000 ≤ D.refs ∧ D.refs ≤ 1000000)) :
    Calls Tryz.prog 141 #[.pointer (some ⟨q, 0, none⟩), .pointer (some ⟨M.br n, 0, none⟩), .int .i64 fd, .int .i64 least] w fun e w' => e = .returned (.tuple #[.int .i64 (dupM K n P fd least).1, .int .i64 (dupM K n P fd least).2.1]) ∧ KP (AllX B) w K M w' q (dupM K n P fd least).2.2 := by
  obtain ⟨hB, hT, hS1, hS2, hne⟩ : PrcAt w (B (.proc n)) (M.br n) (M.bt n) P := h.part (.proc n) P hP
  obtain ⟨b, hb⟩ : ∃ b, M.br n = b := ⟨_, rfl⟩
  obtain ⟨tb, htb⟩ : ∃ tb, M.bt n = tb := ⟨_, rfl⟩
  have hget := Lib.hid (tabGet_any hT fd)
  rw [htb] at hB hget
  rw [hb] at hB ⊢
  have c2 : w.cell? ⟨b, 2, none⟩ = some (.pointer (some ⟨tb, 0, none⟩)) := hB.cell 2
  have hH := Lib.hid h
  have hPH := Lib.hid hP
  have htbH := Lib.hid htb
  have hBH := Lib.hid hB
  by_cases he : (tabM P.tab fd).2 = 0
  · obtain ⟨m, hm, D, hD, hr⟩ := hok he
    have hput := Lib.hid (fun x => tabPut_any hT x least)
    rw [htb] at hput
    obtain ⟨p, hp⟩ : ∃ p, tputM P.tab (m : Int) least = p := ⟨_, rfl⟩
    have hput2 := Lib.hid (hput.out (m : Int))
    rw [hp] at hput2
    obtain ⟨p1, p2, p3⟩ := p
    dsimp only at hput2
    by_cases he2 : p2 = 0
    · subst he2
      have hl : Hid (dupM K n P fd least = (p1, 0, setD (setR K n { P with tab := p3 }) m { D with refs := D.refs + 1 })) := Lib.hid (by
        unfold dupM
        rw [if_neg (fun k => k he), hm, hp, if_pos rfl, Int.toNat_natCast]
        unfold incM
        rw [show ask (setR K n { P with tab := p3 }).descs m = some D from hD])
      rw [he, hm] at hget
      have hDH := Lib.hid hD
      have hneH := Lib.hid hne
      have hbH := Lib.hid hb
      have hS1H := Lib.hid hS1
      have hS2H := Lib.hid hS2
      obtain ⟨rf, hrf⟩ : ∃ rf, D.refs = rf := ⟨_, rfl⟩
      rw [hrf] at hr
      have hrfH := Lib.hid hrf
      rw [hl.out]
      dsimp only
      clear h hP htb hok he hm hD hb hB hT hS1 hS2 hne hput hp hl hrf
      go_enter Tryz.func141, Tryz.ntmps141
      go_upto_region 6 with (first
        | (go_at_call 59; refine hput2.out.mono ?_; rintro e w1 ⟨rfl, hT1, hF1⟩; have hT1H := Lib.hid hT1; have hF1H := Lib.hid hF1; clear hT1 hF1)
        | (go_at_call 188; refine hget.out.mono ?_; rintro e w0 ⟨rfl, rfl⟩))
      have hk1 := turn_T hH.out hPH.out (f := p3) (by rw [htbH.out]; exact hT1H.out) (by rw [htbH.out]; exact hF1H.out)
      have hfr := frmT hH.out hPH.out (by rw [htbH.out]; exact hF1H.out)
      have hg := getD_any hk1 (m : Int)
      have hask : askI (setR K n { P with tab := p3 }).descs (m : Int) = some m := by unfold askI; rw [if_pos (by omega), Int.toNat_natCast, show ask (setR K n { P with tab := p3 }).descs m = some D from hDH.out]; rfl
      rw [hask] at hg
      obtain ⟨hBd, hSd⟩ : DscAt M.bx w1 (B (.desc m)) (M.bd m) D := hk1.part (.desc m) D hDH.out
      have hturn := Lib.hid (fun (W : World) (hW : Below w1.heap.size w1 W) => turn_dc (hk1.below hW) (show ask (setR K n { P with tab := p3 }).descs m = some D from hDH.out) 3 (.int .i64 (D.refs + 1)) (D' := { D with refs := D.refs + 1 }) rfl)
      obtain ⟨d, hd⟩ : ∃ d, M.bd m = d := ⟨_, rfl⟩
      rw [hd] at hBd hturn hSd
      have hgH : Hid (Calls Tryz.prog 189 #[.pointer (some ⟨q, 3, none⟩), .int .i64 m] w1 fun e w' => e = .returned (.pointer (some ⟨d, 0, none⟩)) ∧ Below w1.heap.size w1 w') := Lib.hid (by rw [← hd]; exact hg)
      have k3 : Hid (w1.cell? ⟨d, 3, none⟩ = some (.int .i64 rf)) := Lib.hid (by rw [← hrfH.out]; exact hBd.cell 3)
      have hlt := hBd.lt
      have hBdH := Lib.hid hBd
      have hfrH := Lib.hid hfr
      have hSdH := Lib.hid hSd
      clear hk1 hg hask hBd hd hfr hSd
      go_wp2_with (go_at_call 189; refine hgH.out.mono ?_; rintro e w2 ⟨rfl, hbw⟩; have e3 : w2.cell? ⟨d, 3, none⟩ = some (.int .i64 rf) := (hbw.cell hlt).trans k3.out; have f3 : w2.frozen? ⟨d, 3, none⟩ = false := (hBdH.out.keep (hbw.block d hlt)).frozen 3; have hbwH := Lib.hid hbw; clear hbw)
      go_ret2
      have ht := hturn.out _ hbwH.out
      rw [hrfH.out] at ht
      rw [hrfH.out]
      exact ⟨rfl, B, M, ht, MExt.refl _ _, Nat.le_refl _, Nat.le_refl _, Nat.le_refl _, fun g hg => .inl hg, (hfrH.out.below hbwH.out).setCell (a := ⟨d, 3, none⟩) (.inl ⟨_, hSdH.out⟩) _⟩
    · have hl : Hid (dupM K n P fd least = (p1, p2, K)) := Lib.hid (by
        unfold dupM
        rw [if_neg (fun k => k he), hm, hp]
        dsimp only
        rw [if_neg he2])
      have hsame : Hid (setR K n { P with tab := p3 } = K) := Lib.hid (by
        have h5 := tput_err (f := P.tab) (x := (m : Int)) (l := least) (by rw [hp]; exact he2)
        rw [hp] at h5
        rw [show p3 = P.tab from h5]
        exact setR_same h hP)
      rw [he, hm] at hget
      have d0 : (p2 == 0) = false := beq_eq_false_iff_ne.2 he2
      rw [hl.out]
      dsimp only
      clear h hP htb hok he hm hD hb hB hT hS1 hS2 hne hput hp hl he2
      go_enter Tryz.func141, Tryz.ntmps141
      go_wp2_with (first
        | (go_at_call 59; refine hput2.out.mono ?_; rintro e w1 ⟨rfl, hT1, hF1⟩; have hT1H := Lib.hid hT1; have hF1H := Lib.hid hF1; clear hT1 hF1)
        | (go_at_call 188; refine hget.out.mono ?_; rintro e w0 ⟨rfl, rfl⟩))
      go_ret2
      have hk1 := turn_T hH.out hPH.out (f := p3) (by rw [htbH.out]; exact hT1H.out) (by rw [htbH.out]; exact hF1H.out)
      have hfr := frmT hH.out hPH.out (by rw [htbH.out]; exact hF1H.out)
      rw [hsame.out] at hk1
      exact ⟨rfl, B, M, hk1, MExt.refl _ _, Nat.le_refl _, Nat.le_refl _, Nat.le_refl _, fun g hg => .inl hg, hfr⟩
  · have hl : Hid (dupM K n P fd least = (0, (tabM P.tab fd).2, K)) := Lib.hid (by unfold dupM; rw [if_pos he])
    rw [hl.out]
    dsimp only
    obtain ⟨g, hg⟩ : ∃ g, tabM P.tab fd = g := ⟨_, rfl⟩
    rw [hg] at hget he ⊢
    obtain ⟨g1, g2⟩ := g
    dsimp only at hget he ⊢
    have d0 : (g2 == 0) = false := beq_eq_false_iff_ne.2 he
    clear h hP htb hok he hb hB hT hS1 hS2 hne hl hg
    go_enter Tryz.func141, Tryz.ntmps141
    go_wp2_with (go_at_call 188; refine hget.out.mono ?_; rintro e w0 ⟨rfl, rfl⟩)
    go_ret2
    exact ⟨rfl, KP.of hH.out (Below.refl _ _)⟩
set_option maxRecDepth 100000 in
set_option maxHeartbeats 4000000 in
theorem text_any (h : KerIs w B q K M) {n : Nat} {P : Prc} (hP : ask K.procs n = some P) (s : ByteArray) (hlast : K.lastD < 90000) :
    Calls Tryz.prog 146 #[.pointer (some ⟨q, 0, none⟩), .pointer (some ⟨M.br n, 0, none⟩), .string s] w fun e w' => e = .returned (.tuple #[.int .i64 (textM K n P s).1, .int .i64 (textM K n P s).2.1]) ∧ KP (AllX B) w K M w' q (textM K n P s).2.2 := by
  obtain ⟨hB, hT, hS1, hS2, hne⟩ : PrcAt w (B (.proc n)) (M.br n) (M.bt n) P := h.part (.proc n) P hP
  obtain ⟨b, hb⟩ : ∃ b, M.br n = b := ⟨_, rfl⟩
  obtain ⟨tb, htb⟩ : ∃ tb, M.bt n = tb := ⟨_, rfl⟩
  have hfree := Lib.hid (Pp.free_any w hT)
  rw [htb] at hB hfree
  have c2 : w.cell? ⟨b, 2, none⟩ = some (.pointer (some ⟨tb, 0, none⟩)) := by rw [← hb]; exact hB.cell 2
  have hH := Lib.hid h
  have hPH := Lib.hid hP
  have hbH := Lib.hid hb
  by_cases he : tfreeM P.tab = 0
  · have hl : textM K n P s = (0, 24, K) := by unfold textM; rw [if_pos he]
    rw [hl]
    dsimp only
    have he' : (32 - ((Pp.upto P.tab 32).length : Int)) = 0 := he
    rw [he'] at hfree
    rw [hb]
    clear h hP htb hb hB hT hS1 hS2 hne hl he he'
    go_enter Tryz.func146, Tryz.ntmps146
    go_wp2_with (go_at_call 194; refine hfree.out.mono ?_; rintro e w1 ⟨rfl, hb1⟩)
    go_ret2
    exact ⟨rfl, KP.of hH.out hb1⟩
  · have hl : textM K n P s = ((tputM P.tab ((K.lastD : Int) + 1) 0).1, 0, instM K n P ⟨5, 0, 0, 0, 0, none, s⟩) := by unfold textM; rw [if_neg he]
    rw [hl]
    dsimp only
    obtain ⟨fr, hfr⟩ : ∃ fr, (32 - ((Pp.upto P.tab 32).length : Int)) = fr := ⟨_, rfl⟩
    rw [hfr] at hfree
    have d0 : (fr == 0) = false := beq_eq_false_iff_ne.2 (fun e => he (hfr.trans e))
    have hinst := Lib.hid (fun (W : World) (hW : Below w.heap.size w W) => install_any (w := W.alloc (.cells #[.int .i64 5, .int .i64 0, .int .i64 0, .int .i64 0, .int .i64 0, .pointer none, .string s] 91)) (S := fun g => g = W.heap.size) (b := W.heap.size) (D := ⟨5, 0, 0, 0, 0, none, s⟩)
      ((h.below hW).below ((Below.refl _ _).alloc (Nat.le_refl _) _)) hP ⟨Blk.new W _ _, rfl⟩ (fun j g hg e => by
        have := (h.below hW).lt j g hg
        omega) (fun g hg => by rw [hg, World.size_alloc]; omega) hlast)
    rw [hb] at hinst ⊢
    clear h hP htb hb hB hT hS1 hS2 hne hl he hfr
    go_enter Tryz.func146, Tryz.ntmps146
    go_wp2_with (first
      | (go_at_call 194; refine hfree.out.mono ?_; rintro e w1 ⟨rfl, hb1⟩; have hb1H := Lib.hid hb1; clear hb1)
      | (go_at_call 31; refine (hinst.out _ hb1H.out).mono ?_; rintro e w2 ⟨rfl, hk2⟩; have hk2H := Lib.hid hk2; clear hk2))
    go_ret2
    refine ⟨rfl, ?_⟩
    obtain ⟨B2, M2, k1, k2, k3, k4, k5, k6, k7⟩ := hk2H.out
    have hsz := hb1H.out.size
    have hO : ∀ g, (AllX B g ∨ g = w1.heap.size) → AllX B g ∨ w.heap.size ≤ g := fun g hg => hg.imp_right (fun e => by rw [e]; exact hsz)
    have hF1 : Frm (AllX B) w (w1.alloc (.cells #[.int .i64 5, .int .i64 0, .int .i64 0, .int .i64 0, .int .i64 0, .pointer none, .string s] 91)) := (Frm.of_below hb1H.out).alloc _
    exact ⟨B2, M2, k1, k2, k3, k4, k5, fun g hg => (k6 g hg).elim (hO g) (fun h9 => .inr (by rw [World.size_alloc] at h9; omega)), hF1.trans hO k7⟩
end
end Go.Proofs.YtmilagppbepnbaaGreat.Kn
/- The kernel: dup2, truncate. Condition: it lies as stated; what a descriptor names is there. -/
namespace Go.Proofs.YtmilagppbepnbaaGreat.Kn
open Go.RowKit Go.PlainAid
set_option linter.unusedVariables false
set_option linter.unusedSimpArgs false
attribute [local go_sem] Oper.semAt_some
def dup2K (K : Ker) (n : Nat) (P : Prc) (m : Nat) (other : Int) : Ker := incM (setR K n { P with tab := (tsetM P.tab other (m : Int)).2.2.2 }) m
def dup2M (K : Ker) (n : Nat) (P : Prc) (fd other : Int) : Int × Int × Ker :=
  if (tabM P.tab fd).2 ≠ 0 then (other, (tabM P.tab fd).2, K)
  else if fd = other then (other, 0, K)
  else if (tsetM P.tab other ((tabM P.tab fd).1.toNat : Int)).2.2.1 ≠ 0 then (0, (tsetM P.tab other ((tabM P.tab fd).1.toNat : Int)).2.2.1, K)
  else if (tsetM P.tab other ((tabM P.tab fd).1.toNat : Int)).2.1 then (other, 0, letM (dup2K K n P (tabM P.tab fd).1.toNat other) (tsetM P.tab other ((tabM P.tab fd).1.toNat : Int)).1.toNat)
  else (other, 0, dup2K K n P (tabM P.tab fd).1.toNat other)
theorem tset_err {f : Nat → Pp.Sl} {x l : Int} (h : (tsetM f l x).2.2.1 ≠ 0) : (tsetM f l x).2.2.2 = f := by
  unfold tsetM at h ⊢
  split
  · rename_i h1
    rw [if_pos h1] at h
    exact absurd rfl h
  · rfl
section
variable {w w' : World} {B : Ix → Nat → Prop} {q : Nat} {K : Ker} {M : Mp} {c : Nat}
set_option maxRecDepth 100000 in
set_option maxHeartbeats 4000000 in
theorem dup2_any (h : KerIs w B q K M) (hw : WF c K.fs) (hc : c ≤ 5000) {n : Nat} {P : Prc} (hP : ask K.procs n = some P) (fd other : Int)
    (hok : (tabM P.tab fd).2 = 0 → ∃ m : Nat, (tabM P.tab fd).1 = m ∧ (∃ D, ask K.descs m = some D ∧ (-1000000 ≤ D.refs ∧ D.refs ≤ 1000000)) ∧ (fd ≠ other → (tsetM P.tab other (m : Int)).2.2.1 = 0 → (tsetM P.tab other (m : Int)).2.1 = true → ∃ o : Nat, (tsetM P.tab other (m : Int)).1 = o ∧ LetOK (dup2K K n P m other) o)) :
    Calls Tryz.prog 142 #[.pointer (some ⟨q, 0, none⟩), .pointer (some ⟨M.br n, 0, none⟩), .int .i64 fd, .int .i64 other] w fun e w' => e = .returned (.tuple #[.int .i64 (dup2M K n P fd other).1, .int .i64 (dup2M K n P fd other).2.1]) ∧ KP (AllX B) w K M w' q (dup2M K n P fd other).2.2 := by
  obtain ⟨hB, hT, hS1, hS2, hne⟩ : PrcAt w (B (.proc n)) (M.br n) (M.bt n) P := h.part (.proc n) P hP
  obtain ⟨b, hb⟩ : ∃ b, M.br n = b := ⟨_, rfl⟩
  obtain ⟨tb, htb⟩ : ∃ tb, M.bt n = tb := ⟨_, rfl⟩
  have hget := Lib.hid (tabGet_any hT fd)
  rw [htb] at hB hget
  rw [hb] at hB ⊢
  have c2 : w.cell? ⟨b, 2, none⟩ = some (.pointer (some ⟨tb, 0, none⟩)) := hB.cell 2
  have hH := Lib.hid h
  have hPH := Lib.hid hP
  have htbH := Lib.hid htb
  have hwH := Lib.hid hw
  by_cases he : (tabM P.tab fd).2 = 0
  · obtain ⟨m, hm, ⟨D, hD, hr⟩, hold⟩ := hok he
    rw [he, hm] at hget
    by_cases hfo : fd = other
    · subst hfo
      have hl : dup2M K n P fd fd = (fd, 0, K) := by unfold dup2M; rw [if_neg (fun k => k he), if_pos rfl]
      rw [hl]
      dsimp only
      clear h hP htb hok he hb hB hT hS1 hS2 hne hl hold hw hD hm
      go_enter Tryz.func142, Tryz.ntmps142
      go_wp2_with (go_at_call 188; refine hget.out.mono ?_; rintro e w0 ⟨rfl, rfl⟩)
      go_ret2
      exact ⟨rfl, KP.of hH.out (Below.refl _ _)⟩
    · have dfo : (fd == other) = false := beq_eq_false_iff_ne.2 hfo
      obtain ⟨p, hp⟩ : ∃ p, tsetM P.tab other (m : Int) = p := ⟨_, rfl⟩
      have hset := Lib.hid (tabSet_any hT other (m : Int))
      rw [htb, hp] at hset
      have hold' := hold hfo
      rw [hp] at hold'
      have hl : dup2M K n P fd other = if p.2.2.1 ≠ 0 then (0, p.2.2.1, K) else if p.2.1 then (other, 0, letM (dup2K K n P m other) p.1.toNat) else (other, 0, dup2K K n P m other) := by
        unfold dup2M
        rw [if_neg (fun k => k he), if_neg hfo, hm, Int.toNat_natCast, hp]
      obtain ⟨p1, p2, p3, p4⟩ := p
      dsimp only at hset hl hold'
      by_cases he3 : p3 = 0
      · subst he3
        rw [if_neg (by simp)] at hl
        have hK2 : Hid (dup2K K n P m other = setD (setR K n { P with tab := p4 }) m { D with refs := D.refs + 1 }) := Lib.hid (by
          unfold dup2K incM
          rw [hp]
          rw [show ask (setR K n { P with tab := p4 }).descs m = some D from hD])
        rw [hK2.out] at hl hold'
        have hold2 := hold' rfl
        have hDH := Lib.hid hD
        have hlH := Lib.hid hl
        obtain ⟨rf, hrf⟩ : ∃ rf, D.refs = rf := ⟨_, rfl⟩
        rw [hrf] at hr
        have hrfH := Lib.hid hrf
        have hcH := Lib.hid hc
        have hold3 := Lib.hid hold2
        clear h hP htb hok he hm hD hb hB hT hS1 hS2 hne hp hl hrf hfo hold hold' hold2 hw hc
        go_enter Tryz.func142, Tryz.ntmps142
        go_upto_region 7 with (first
          | (go_at_call 199; refine hset.out.mono ?_; rintro e w1 ⟨rfl, hT1, hF1⟩; have hT1H := Lib.hid hT1; have hF1H := Lib.hid hF1; clear hT1 hF1)
          | (go_at_call 188; refine hget.out.mono ?_; rintro e w0 ⟨rfl, rfl⟩))
        have hk1 := turn_T hH.out hPH.out (f := p4) (by rw [htbH.out]; exact hT1H.out) (by rw [htbH.out]; exact hF1H.out)
        have hfr := frmT hH.out hPH.out (by rw [htbH.out]; exact hF1H.out)
        have hg := getD_any hk1 (m : Int)
        have hask : askI (setR K n { P with tab := p4 }).descs (m : Int) = some m := by unfold askI; rw [if_pos (by omega), Int.toNat_natCast, show ask (setR K n { P with tab := p4 }).descs m = some D from hDH.out]; rfl
        rw [hask] at hg
        obtain ⟨hBd, hSd⟩ : DscAt M.bx w1 (B (.desc m)) (M.bd m) D := hk1.part (.desc m) D hDH.out
        have hturn := Lib.hid (fun (W : World) (hW : Below w1.heap.size w1 W) => turn_dc (hk1.below hW) (show ask (setR K n { P with tab := p4 }).descs m = some D from hDH.out) 3 (.int .i64 (D.refs + 1)) (D' := { D with refs := D.refs + 1 }) rfl)
        obtain ⟨d, hd⟩ : ∃ d, M.bd m = d := ⟨_, rfl⟩
        rw [hd] at hBd hturn hSd
        have hgH : Hid (Calls Tryz.prog 189 #[.pointer (some ⟨q, 3, none⟩), .int .i64 m] w1 fun e w' => e = .returned (.pointer (some ⟨d, 0, none⟩)) ∧ Below w1.heap.size w1 w') := Lib.hid (by rw [← hd]; exact hg)
        have k3 : Hid (w1.cell? ⟨d, 3, none⟩ = some (.int .i64 rf)) := Lib.hid (by rw [← hrfH.out]; exact hBd.cell 3)
        have hlt := hBd.lt
        have hBdH := Lib.hid hBd
        have hfrH := Lib.hid hfr
        have hSdH := Lib.hid hSd
        clear hk1 hg hask hBd hd hfr hSd
        cases p2 with
        | false =>
          go_wp2_with (go_at_call 189; refine hgH.out.mono ?_; rintro e w2 ⟨rfl, hbw⟩; have e3 : w2.cell? ⟨d, 3, none⟩ = some (.int .i64 rf) := (hbw.cell hlt).trans k3.out; have f3 : w2.frozen? ⟨d, 3, none⟩ = false := (hBdH.out.keep (hbw.block d hlt)).frozen 3; have hbwH := Lib.hid hbw; clear hbw)
          go_ret2
          have ht := hturn.out _ hbwH.out
          rw [hlH.out, if_neg (by simp)]
          rw [hrfH.out] at ht
          rw [hrfH.out]
          exact ⟨rfl, B, M, ht, MExt.refl _ _, Nat.le_refl _, Nat.le_refl _, Nat.le_refl _, fun g hg => .inl hg, (hfrH.out.below hbwH.out).setCell (a := ⟨d, 3, none⟩) (.inl ⟨_, hSdH.out⟩) _⟩
        | true =>
          obtain ⟨o, ho, D2, hD2, hr2, hp2⟩ := hold3.out rfl
          subst ho
          have hlet := Lib.hid (fun (W : World) (hW : Below w1.heap.size w1 W) => letGo_any (c := c) (hturn.out W hW) hwH.out hcH.out (m := o) hD2 hr2 hp2)
          rw [hrfH.out] at hlet
          clear hD2 hr2 hp2
          go_wp2_with (first
            | (go_at_call 189; refine hgH.out.mono ?_; rintro e w2 ⟨rfl, hbw⟩; have e3 : w2.cell? ⟨d, 3, none⟩ = some (.int .i64 rf) := (hbw.cell hlt).trans k3.out; have f3 : w2.frozen? ⟨d, 3, none⟩ = false := (hBdH.out.keep (hbw.block d hlt)).frozen 3; have hbwH := Lib.hid hbw; clear hbw)
            | (go_at_call 160; refine (hlet.out _ hbwH.out).mono ?_; rintro e w3 ⟨rfl, hk3⟩; have hk3H := Lib.hid hk3; clear hk3))
          go_ret2
          have hl2 : dup2M K n P fd other = (other, 0, letM (setD (setR K n { P with tab := p4 }) m { D with refs := D.refs + 1 }) o) := hlH.out
          rw [hl2, hrfH.out]
          exact ⟨rfl, KP.trans (K1 := setD (setR K n { P with tab := p4 }) m { D with refs := rf + 1 }) (fun g hg => .inl hg) ((hfrH.out.below hbwH.out).setCell (a := ⟨d, 3, none⟩) (.inl ⟨_, hSdH.out⟩) _) (MExt.refl _ _) (Nat.le_refl _) (Nat.le_refl _) (Nat.le_refl _) hk3H.out⟩
      · rw [if_pos he3] at hl
        have hsame : Hid (setR K n { P with tab := p4 } = K) := Lib.hid (by
          have h5 := tset_err (f := P.tab) (x := (m : Int)) (l := other) (by rw [hp]; exact he3)
          rw [hp] at h5
          rw [show p4 = P.tab from h5]
          exact setR_same h hP)
        have d0 : (p3 == 0) = false := beq_eq_false_iff_ne.2 he3
        rw [hl]
        dsimp only
        clear h hP htb hok he hm hD hb hB hT hS1 hS2 hne hp hl he3 hfo hold hold' hw
        go_enter Tryz.func142, Tryz.ntmps142
        go_wp2_with (first
          | (go_at_call 199; refine hset.out.mono ?_; rintro e w1 ⟨rfl, hT1, hF1⟩; have hT1H := Lib.hid hT1; have hF1H := Lib.hid hF1; clear hT1 hF1)
          | (go_at_call 188; refine hget.out.mono ?_; rintro e w0 ⟨rfl, rfl⟩))
        go_ret2
        have hk1 := turn_T hH.out hPH.out (f := p4) (by rw [htbH.out]; exact hT1H.out) (by rw [htbH.out]; exact hF1H.out)
        have hfr := frmT hH.out hPH.out (by rw [htbH.out]; exact hF1H.out)
        rw [hsame.out] at hk1
        exact ⟨rfl, B, M, hk1, MExt.refl _ _, Nat.le_refl _, Nat.le_refl _, Nat.le_refl _, fun g hg => .inl hg, hfr⟩
  · have hl : Hid (dup2M K n P fd other = (other, (tabM P.tab fd).2, K)) := Lib.hid (by unfold dup2M; rw [if_pos he])
    rw [hl.out]
    dsimp only
    obtain ⟨g, hg⟩ : ∃ g, tabM P.tab fd = g := ⟨_, rfl⟩
    rw [hg] at hget he ⊢
    obtain ⟨g1, g2⟩ := g
    dsimp only at hget he ⊢
    have d0 : (g2 == 0) = false := beq_eq_false_iff_ne.2 he
    clear h hP htb hok he hb hB hT hS1 hS2 hne hl hg hw
    go_enter Tryz.func142, Tryz.ntmps142
    go_wp2_with (go_at_call 188; refine hget.out.mono ?_; rintro e w0 ⟨rfl, rfl⟩)
    go_ret2
    exact ⟨rfl, KP.of hH.out (Below.refl _ _)⟩
def truncKM (K : Ker) (P : Prc) (fd size : Int) : Int × Ker := match writN K P fd with
  | none => (9, K)
  | some m => (match ask K.descs m with
    | some D => if D.kind ≠ 2 then (22, K) else ((TruncM K.fs D.n size).1, setF K (TruncM K.fs D.n size).2)
    | none => (0, K))
end
end Go.Proofs.YtmilagppbepnbaaGreat.Kn
/- The kernel: mayOpen. Condition: it lies as stated. -/
namespace Go.Proofs.YtmilagppbepnbaaGreat.Kn
open Go.RowKit Go.PlainAid
set_option linter.unusedVariables false
set_option linter.unusedSimpArgs false
attribute [local go_sem] Oper.semAt_some
def kindM (f : Fs) (n : Int) : Nat := match node f n with | none => 0 | some I => I.kind
def sizeM (f : Fs) (n : Int) : Nat := match node f n with | none => 0 | some I => I.size
def flg (flags m : Int) : Bool := bits .and .i64 flags m != 0
theorem stat_lit (f : Fs) (n : Int) : ∃ a m l : Int, (StatM f n).1 = #[.int .i64 a, .int .i64 (kindM f n), .int .i64 m, .int .i64 l, .int .i64 (sizeM f n)] := by
  unfold StatM kindM sizeM
  cases node f n with
  | none => exact ⟨0, 0, 0, rfl⟩
  | some I => exact ⟨n, I.mode, I.links, rfl⟩
def mayOpenM (K : Ker) (ino flags : Int) : Int :=
  if flg flags 4 && flg flags 8 then 17 else if kindM K.fs ino = 2 then 21 else if flg flags 1 && !MayM K.fs ino 4 then 13 else if flg flags 2 && !MayM K.fs ino 2 then 13 else 0
end Go.Proofs.YtmilagppbepnbaaGreat.Kn

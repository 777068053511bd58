/- The kernel in memory. No condition. -/
import Derived.Test.YtmilagppbepnbaaGreatKgM
namespace Go.Proofs.YtmilagppbepnbaaGreat
open Go.RowKit Go.PlainAid
set_option linter.unusedVariables false
set_option linter.unusedSimpArgs false
inductive Ix where
  | own
  | fs
  | pipe (n : Nat)
  | desc (n : Nat)
  | proc (n : Nat)
deriving DecidableEq
/-- Where things stand: pipes, descriptions, processes by their numbers; the tree. -/
structure Mp where
  bx : Nat → Nat
  bd : Nat → Nat
  br : Nat → Nat
  bt : Nat → Nat
  fp : Nat
def dcells (bx : Nat → Nat) (D : Dsc) : List Value := [.int .i64 D.kind, .int .i64 D.n, .int .i64 D.at_, .int .i64 D.refs, .int .i64 D.flags, ptrV (D.pipe.map bx), .string D.text]
def DscAt (bx : Nat → Nat) (w : World) (S : Nat → Prop) (b : Nat) (D : Dsc) : Prop := Blk w b 91 (dcells bx D).toArray ∧ S b
def pcells (P : Prc) (tb : Nat) : List Value := [.int .i64 P.num, .int .i64 P.parent, .pointer (some ⟨tb, 0, none⟩), .int .i64 P.dir, .int .i64 P.mask, .bool P.ended, .int .i64 P.status]
def PrcAt (w : World) (S : Nat → Prop) (b tb : Nat) (P : Prc) : Prop := Blk w b 84 (pcells P tb).toArray ∧ Pp.TabAt w tb P.tab ∧ S b ∧ S tb ∧ tb ≠ b
def PipAt (w : World) (S : Nat → Prop) (b : Nat) (s : Pp.St) : Prop := ∃ rb, Pp.PipeAt w b rb s ∧ S b ∧ S rb
def FilAt (w : World) (S : Nat → Prop) (p : Nat) (f : Fs) : Prop := ∃ B, FsIs w B p f ∧ ∀ g, All B g → S g
def kcells (K : Ker) (fp : Nat) (xv dv rv o1 o2 : Value) : Array Value := #[.pointer (some ⟨fp, 0, none⟩), xv, .int .i64 K.lastX, dv, .int .i64 K.lastD, rv, .int .i64 K.lastR, .string K.typed, .bool K.closed, o1, o2]
/-- The kernel's own blocks. -/
structure OwnAt (w : World) (S : Nat → Prop) (q : Nat) (K : Ker) (M : Mp) (xv dv rv o1 o2 : Value) : Prop where
  blk : Blk w q 79 (kcells K M.fp xv dv rv o1 o2)
  rx : w.ownsRow 0 270 2 xv K.pipes.length (flat rcs (rowsOf K.pipes M.bx))
  rd : w.ownsRow 0 218 2 dv K.descs.length (flat rcs (rowsOf K.descs M.bd))
  rr : w.ownsRow 0 166 2 rv K.procs.length (flat rcs (rowsOf K.procs M.br))
  p1 : w.ownsRow 0 5 1 o1 K.out1.length (Lib.byteCells K.out1)
  p2 : w.ownsRow 0 5 1 o2 K.out2.length (Lib.byteCells K.out2)
  sq : S q
  sx : ∀ g, xv.ownBlock = some g → S g
  sd : ∀ g, dv.ownBlock = some g → S g
  sr : ∀ g, rv.ownBlock = some g → S g
  s1 : ∀ g, o1.ownBlock = some g → S g
  s2 : ∀ g, o2.ownBlock = some g → S g
  ne : ∀ g, o1.ownBlock = some g → o2.ownBlock ≠ some g
def OwnIs (w : World) (S : Nat → Prop) (q : Nat) (K : Ker) (M : Mp) : Prop := ∃ xv dv rv o1 o2, OwnAt w S q K M xv dv rv o1 o2
/-- Each part. -/
def Part (K : Ker) (M : Mp) (q : Nat) (w : World) (S : Nat → Prop) : Ix → Prop
  | .own => OwnIs w S q K M
  | .fs => FilAt w S M.fp K.fs
  | .pipe n => ∀ s, ask K.pipes n = some s → PipAt w S (M.bx n) s
  | .desc n => ∀ D, ask K.descs n = some D → DscAt M.bx w S (M.bd n) D
  | .proc n => ∀ P, ask K.procs n = some P → PrcAt w S (M.br n) (M.bt n) P
/-- The numbers of a kernel. -/
structure Nmb (K : Ker) : Prop where
  ox : OrdK K.pipes
  od : OrdK K.descs
  or_ : OrdK K.procs
  lx : ∀ p ∈ K.pipes, 1 ≤ p.1 ∧ p.1 ≤ K.lastX
  ld : ∀ p ∈ K.descs, 1 ≤ p.1 ∧ p.1 ≤ K.lastD
  lr : ∀ p ∈ K.procs, 1 ≤ p.1 ∧ p.1 ≤ K.lastR
  bx : K.lastX ≤ 90000
  bd : K.lastD ≤ 90000
  br : K.lastR ≤ 90000
structure KerIs (w : World) (B : Ix → Nat → Prop) (q : Nat) (K : Ker) (M : Mp) : Prop where
  part : ∀ i, Part K M q w (B i) i
  apart : ∀ i j g, B i g → B j g → i = j
  lt : ∀ i g, B i g → g < w.heap.size
  num : Nmb K
def AllX (B : Ix → Nat → Prop) (g : Nat) : Prop := ∃ i, B i g
theorem DscAt.keep {bx : Nat → Nat} {w w' : World} {S : Nat → Prop} {b : Nat} {D : Dsc} (h : DscAt bx w S b D) (hb : ∀ g, S g → w'.heap[g]? = w.heap[g]?) : DscAt bx w' S b D := ⟨h.1.keep (hb b h.2), h.2⟩
theorem PrcAt.keep {w w' : World} {S : Nat → Prop} {b tb : Nat} {P : Prc} (h : PrcAt w S b tb P) (hb : ∀ g, S g → w'.heap[g]? = w.heap[g]?) : PrcAt w' S b tb P := by
  obtain ⟨h1, h2, h3, h4, h5⟩ := h
  exact ⟨h1.keep (hb b h3), h2.keep (hb tb h4), h3, h4, h5⟩
theorem PipAt.keep {w w' : World} {S : Nat → Prop} {b : Nat} {s : Pp.St} (h : PipAt w S b s) (hb : ∀ g, S g → w'.heap[g]? = w.heap[g]?) : PipAt w' S b s := by
  obtain ⟨rb, h1, h3, h4⟩ := h
  exact ⟨rb, h1.keep ⟨hb b h3, hb rb h4⟩, h3, h4⟩
theorem FilAt.keep {w w' : World} {S : Nat → Prop} {p : Nat} {f : Fs} (h : FilAt w S p f) (hs : w.heap.size ≤ w'.heap.size) (hb : ∀ g, S g → w'.heap[g]? = w.heap[g]?) : FilAt w' S p f := by
  obtain ⟨B, h1, h2⟩ := h
  exact ⟨B, h1.keep hs (fun i g hg => hb g (h2 g ⟨i, hg⟩)), h2⟩
theorem OwnAt.keep {w w' : World} {S : Nat → Prop} {q : Nat} {K : Ker} {M : Mp} {xv dv rv o1 o2 : Value} (h : OwnAt w S q K M xv dv rv o1 o2) (hb : ∀ g, S g → w'.heap[g]? = w.heap[g]?) : OwnAt w' S q K M xv dv rv o1 o2 :=
  ⟨h.blk.keep (hb q h.sq), row_keep h.rx (fun g hg => hb g (h.sx g hg)), row_keep h.rd (fun g hg => hb g (h.sd g hg)), row_keep h.rr (fun g hg => hb g (h.sr g hg)), row_keep h.p1 (fun g hg => hb g (h.s1 g hg)), row_keep h.p2 (fun g hg => hb g (h.s2 g hg)), h.sq, h.sx, h.sd, h.sr, h.s1, h.s2, h.ne⟩
theorem Part.keep {K : Ker} {M : Mp} {q : Nat} {w w' : World} {S : Nat → Prop} {i : Ix} (h : Part K M q w S i) (hs : w.heap.size ≤ w'.heap.size) (hb : ∀ g, S g → w'.heap[g]? = w.heap[g]?) : Part K M q w' S i := by
  cases i with
  | own => obtain ⟨xv, dv, rv, o1, o2, h⟩ := h; exact ⟨xv, dv, rv, o1, o2, h.keep hb⟩
  | fs => exact FilAt.keep h hs hb
  | pipe n => exact fun s hk => (h s hk).keep hb
  | desc n => exact fun s hk => (h s hk).keep hb
  | proc n => exact fun s hk => (h s hk).keep hb
section
variable {w w' : World} {B : Ix → Nat → Prop} {q : Nat} {K K' : Ker} {M M' : Mp}
theorem KerIs.keep (h : KerIs w B q K M) (hs : w.heap.size ≤ w'.heap.size) (hb : ∀ i g, B i g → w'.heap[g]? = w.heap[g]?) : KerIs w' B q K M :=
  ⟨fun i => (h.part i).keep hs (fun g hg => hb i g hg), h.apart, fun i g hg => Nat.lt_of_lt_of_le (h.lt i g hg) hs, h.num⟩
theorem KerIs.below (h : KerIs w B q K M) (hb : Below w.heap.size w w') : KerIs w' B q K M := h.keep hb.size (fun i g hg => hb.block g (h.lt i g hg))
theorem KerIs.frm {O : Nat → Prop} (h : KerIs w B q K M) (hF : Frm O w w') (hO : ∀ i g, B i g → ¬ O g) : KerIs w' B q K M := h.keep hF.size (fun i g hg => hF.block g (h.lt i g hg) (hO i g hg))
def upX (B : Ix → Nat → Prop) (i : Ix) (S : Nat → Prop) : Ix → Nat → Prop := fun j g => if j = i then S g else B j g
theorem upX_self (B : Ix → Nat → Prop) (i : Ix) (S : Nat → Prop) : upX B i S i = S := by funext g; unfold upX; rw [if_pos rfl]
theorem upX_ne (B : Ix → Nat → Prop) {i j : Ix} (h : j ≠ i) (S : Nat → Prop) : upX B i S j = B j := by funext g; unfold upX; rw [if_neg h]
/-- One part turns; what the others read stays. -/
theorem KerIs.turn (h : KerIs w B q K M) (i : Ix) {S : Nat → Prop} (hS : ∀ g, S g → B i g ∨ w.heap.size ≤ g) (hl : ∀ g, S g → g < w'.heap.size) (hF : Frm (B i) w w') (h0 : Part K' M' q w' S i)
    (ho : ∀ j, j ≠ i → Part K M q w' (B j) j → Part K' M' q w' (B j) j) (hn : Nmb K') : KerIs w' (upX B i S) q K' M' := by
  have hb : ∀ j, j ≠ i → ∀ g, B j g → w'.heap[g]? = w.heap[g]? := fun j hj g hg => hF.block g (h.lt j g hg) (fun h' => hj (h.apart _ _ _ hg h'))
  refine ⟨fun j => ?_, fun a b g ha hb' => ?_, fun a g ha => ?_, hn⟩
  · by_cases e : j = i
    · subst e; rw [upX_self]; exact h0
    · rw [upX_ne B e]; exact ho j e ((h.part j).keep hF.size (hb j e))
  · unfold upX at ha hb'
    split at ha
    · split at hb'
      · rename_i e1 e2; rw [e1, e2]
      · rename_i e1 e2
        rcases hS g ha with h1 | h1
        · exact absurd (h.apart _ _ _ hb' h1) e2
        · have := h.lt _ _ hb'; omega
    · split at hb'
      · rename_i e1 e2
        rcases hS g hb' with h1 | h1
        · exact absurd (h.apart _ _ _ ha h1) e1
        · have := h.lt _ _ ha; omega
      · exact h.apart _ _ _ ha hb'
  · unfold upX at ha
    split at ha
    · exact hl g ha
    · exact Nat.lt_of_lt_of_le (h.lt a g ha) hF.size
/-- What stood under numbers stands there. -/
structure MExt (K : Ker) (M M' : Mp) : Prop where
  bx : ∀ n, n ≤ K.lastX → M'.bx n = M.bx n
  bd : ∀ n, n ≤ K.lastD → M'.bd n = M.bd n
  br : ∀ n, n ≤ K.lastR → M'.br n = M.br n
  bt : ∀ n, n ≤ K.lastR → M'.bt n = M.bt n
  fp : M'.fp = M.fp
theorem MExt.refl (K : Ker) (M : Mp) : MExt K M M := ⟨fun _ _ => rfl, fun _ _ => rfl, fun _ _ => rfl, fun _ _ => rfl, rfl⟩
theorem MExt.trans {K K' : Ker} {M M' M'' : Mp} (h : MExt K M M') (h' : MExt K' M' M'') (h1 : K.lastX ≤ K'.lastX) (h2 : K.lastD ≤ K'.lastD) (h3 : K.lastR ≤ K'.lastR) : MExt K M M'' :=
  ⟨fun n hn => (h'.bx n (by omega)).trans (h.bx n hn), fun n hn => (h'.bd n (by omega)).trans (h.bd n hn), fun n hn => (h'.br n (by omega)).trans (h.br n hn), fun n hn => (h'.bt n (by omega)).trans (h.bt n hn), h'.fp.trans h.fp⟩
/-- What a step leaves: O: the blocks that were the kernel's. -/
def KP (O : Nat → Prop) (w0 : World) (K0 : Ker) (M0 : Mp) (w : World) (q : Nat) (K : Ker) : Prop :=
  ∃ B M, KerIs w B q K M ∧ MExt K0 M0 M ∧ K0.lastX ≤ K.lastX ∧ K0.lastD ≤ K.lastD ∧ K0.lastR ≤ K.lastR ∧ (∀ g, AllX B g → O g ∨ w0.heap.size ≤ g) ∧ Frm O w0 w
theorem KP.of (h : KerIs w B q K M) (hb : Below w.heap.size w w') : KP (AllX B) w K M w' q K := ⟨B, M, h.below hb, MExt.refl _ _, Nat.le_refl _, Nat.le_refl _, Nat.le_refl _, fun _ hg => .inl hg, Frm.of_below hb⟩
theorem KP.trans {O : Nat → Prop} {w0 w1 w2 : World} {K0 K1 K2 : Ker} {M0 M1 : Mp} (hO : ∀ g, AllX B g → O g ∨ w0.heap.size ≤ g) (hF : Frm O w0 w1) (hE : MExt K0 M0 M1) (h1 : K0.lastX ≤ K1.lastX) (h2 : K0.lastD ≤ K1.lastD) (h3 : K0.lastR ≤ K1.lastR) (h : KP (AllX B) w1 K1 M1 w2 q K2) : KP O w0 K0 M0 w2 q K2 := by
  obtain ⟨B', M', k1, k2, k3, k4, k5, k6, k7⟩ := h
  exact ⟨B', M', k1, hE.trans k2 h1 h2 h3, by omega, by omega, by omega, fun g hg => (k6 g hg).elim (hO g) (fun h => .inr (Nat.le_trans hF.size h)), hF.trans hO k7⟩
/-- Of one step: a part turned. -/
theorem KerIs.step (h : KerIs w B q K M) (i : Ix) {S : Nat → Prop} (hS : ∀ g, S g → B i g ∨ w.heap.size ≤ g) (hl : ∀ g, S g → g < w'.heap.size) (hF : Frm (B i) w w') (h0 : Part K' M' q w' S i)
    (ho : ∀ j, j ≠ i → Part K M q w' (B j) j → Part K' M' q w' (B j) j) (hn : Nmb K') (hE : MExt K M M') (h1 : K.lastX ≤ K'.lastX) (h2 : K.lastD ≤ K'.lastD) (h3 : K.lastR ≤ K'.lastR) : KP (AllX B) w K M w' q K' :=
  ⟨upX B i S, M', h.turn i hS hl hF h0 ho hn, hE, h1, h2, h3, fun g ⟨j, hj⟩ => by
    unfold upX at hj
    split at hj
    · exact (hS g hj).elim (fun h => .inl ⟨i, h⟩) .inr
    · exact .inl ⟨j, hj⟩, hF.mono (fun g hg => ⟨i, hg⟩)⟩
end
end Go.Proofs.YtmilagppbepnbaaGreat

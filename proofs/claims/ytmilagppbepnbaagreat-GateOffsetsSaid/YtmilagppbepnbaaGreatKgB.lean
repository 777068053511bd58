/- The kernel: one part turns: a process, a description, a pipe, the tree; what a walk has come to. No condition. -/
import Derived.Test.YtmilagppbepnbaaGreatKgA
namespace Go.Proofs.YtmilagppbepnbaaGreat.Kn
open Go.RowKit Go.PlainAid
set_option linter.unusedVariables false
set_option linter.unusedSimpArgs false
theorem put1_len {X : Type} (l : List (Nat × X)) (n : Nat) (x : X) : (put1 l n x).length = l.length := List.length_map ..
theorem put1_mem {X : Type} {l : List (Nat × X)} {n : Nat} {x : X} {p : Nat × X} (h : p ∈ put1 l n x) : ∃ r ∈ l, r.1 = p.1 := by
  unfold put1 at h
  obtain ⟨r, hr, e⟩ := List.mem_map.1 h
  refine ⟨r, hr, ?_⟩
  split at e
  · rename_i e1; rw [← e]; exact e1
  · rw [e]
/-- The kernel with a process, a description, a pipe, a tree anew. -/
def setR (K : Ker) (n : Nat) (P : Prc) : Ker := { K with procs := put1 K.procs n P }
def setD (K : Ker) (n : Nat) (D : Dsc) : Ker := { K with descs := put1 K.descs n D }
def setX (K : Ker) (n : Nat) (s : Pp.St) : Ker := { K with pipes := put1 K.pipes n s }
def setF (K : Ker) (f : Fs) : Ker := { K with fs := f }
theorem nmbR {K : Ker} (h : Nmb K) (n : Nat) (P : Prc) : Nmb (setR K n P) :=
  ⟨h.ox, h.od, put1_ord h.or_ n P, h.lx, h.ld, fun p hp => by obtain ⟨r, hr, e⟩ := put1_mem hp; rw [← e]; exact h.lr r hr, h.bx, h.bd, h.br⟩
theorem nmbD {K : Ker} (h : Nmb K) (n : Nat) (D : Dsc) : Nmb (setD K n D) :=
  ⟨h.ox, put1_ord h.od n D, h.or_, h.lx, fun p hp => by obtain ⟨r, hr, e⟩ := put1_mem hp; rw [← e]; exact h.ld r hr, h.lr, h.bx, h.bd, h.br⟩
theorem nmbX {K : Ker} (h : Nmb K) (n : Nat) (s : Pp.St) : Nmb (setX K n s) :=
  ⟨put1_ord h.ox n s, h.od, h.or_, fun p hp => by obtain ⟨r, hr, e⟩ := put1_mem hp; rw [← e]; exact h.lx r hr, h.ld, h.lr, h.bx, h.bd, h.br⟩
theorem nmbF {K : Ker} (h : Nmb K) (f : Fs) : Nmb (setF K f) := ⟨h.ox, h.od, h.or_, h.lx, h.ld, h.lr, h.bx, h.bd, h.br⟩
section
variable {w w' : World} {B : Ix → Nat → Prop} {q : Nat} {K : Ker} {M : Mp}
theorem step_R (h : KerIs w B q K M) {n : Nat} {P P' : Prc} (hP : ask K.procs n = some P) {S : Nat → Prop} (h' : PrcAt w' S (M.br n) (M.bt n) P') (hS : ∀ g, S g → B (.proc n) g ∨ w.heap.size ≤ g) (hl : ∀ g, S g → g < w'.heap.size) (hF : Frm (B (.proc n)) w w') :
    KP (AllX B) w K M w' q (setR K n P') := by
  refine h.step (.proc n) hS hl hF (K' := setR K n P') (M' := M) ?_ (fun j hj hp => ?_) (nmbR h.num n P') (MExt.refl K M) (Nat.le_refl _) (Nat.le_refl _) (Nat.le_refl _)
  · intro Q hQ
    have : ask (put1 K.procs n P') n = some Q := hQ
    rw [ask_put hP, if_pos rfl] at this
    cases this
    exact h'
  · cases j with
    | own =>
      obtain ⟨xv, dv, rv, o1, o2, k⟩ := hp
      exact ⟨xv, dv, rv, o1, o2, k.blk, k.rx, k.rd, by
        show w'.ownsRow 0 _ 2 rv (put1 K.procs n P').length (flat rcs (rowsOf (put1 K.procs n P') M.br))
        rw [put1_len, put1_rows]; exact k.rr, k.p1, k.p2, k.sq, k.sx, k.sd, k.sr, k.s1, k.s2, k.ne⟩
    | fs => exact hp
    | pipe m => exact hp
    | desc m => exact hp
    | proc m =>
      intro Q hQ
      have h1 : ask (put1 K.procs n P') m = some Q := hQ
      rw [ask_put hP, if_neg (fun e => hj (by rw [e]))] at h1
      exact hp Q h1
theorem step_D (h : KerIs w B q K M) {n : Nat} {D D' : Dsc} (hD : ask K.descs n = some D) {S : Nat → Prop} (h' : DscAt M.bx w' S (M.bd n) D') (hS : ∀ g, S g → B (.desc n) g ∨ w.heap.size ≤ g) (hl : ∀ g, S g → g < w'.heap.size) (hF : Frm (B (.desc n)) w w') :
    KP (AllX B) w K M w' q (setD K n D') := by
  refine h.step (.desc n) hS hl hF (K' := setD K n D') (M' := M) ?_ (fun j hj hp => ?_) (nmbD h.num n D') (MExt.refl K M) (Nat.le_refl _) (Nat.le_refl _) (Nat.le_refl _)
  · intro Q hQ
    have : ask (put1 K.descs n D') n = some Q := hQ
    rw [ask_put hD, if_pos rfl] at this
    cases this
    exact h'
  · cases j with
    | own =>
      obtain ⟨xv, dv, rv, o1, o2, k⟩ := hp
      exact ⟨xv, dv, rv, o1, o2, k.blk, k.rx, by
        show w'.ownsRow 0 _ 2 dv (put1 K.descs n D').length (flat rcs (rowsOf (put1 K.descs n D') M.bd))
        rw [put1_len, put1_rows]; exact k.rd, k.rr, k.p1, k.p2, k.sq, k.sx, k.sd, k.sr, k.s1, k.s2, k.ne⟩
    | fs => exact hp
    | pipe m => exact hp
    | proc m => exact hp
    | desc m =>
      intro Q hQ
      have h1 : ask (put1 K.descs n D') m = some Q := hQ
      rw [ask_put hD, if_neg (fun e => hj (by rw [e]))] at h1
      exact hp Q h1
theorem step_X (h : KerIs w B q K M) {n : Nat} {s s' : Pp.St} (hs : ask K.pipes n = some s) {S : Nat → Prop} (h' : PipAt w' S (M.bx n) s') (hS : ∀ g, S g → B (.pipe n) g ∨ w.heap.size ≤ g) (hl : ∀ g, S g → g < w'.heap.size) (hF : Frm (B (.pipe n)) w w') :
    KP (AllX B) w K M w' q (setX K n s') := by
  refine h.step (.pipe n) hS hl hF (K' := setX K n s') (M' := M) ?_ (fun j hj hp => ?_) (nmbX h.num n s') (MExt.refl K M) (Nat.le_refl _) (Nat.le_refl _) (Nat.le_refl _)
  · intro Q hQ
    have : ask (put1 K.pipes n s') n = some Q := hQ
    rw [ask_put hs, if_pos rfl] at this
    cases this
    exact h'
  · cases j with
    | own =>
      obtain ⟨xv, dv, rv, o1, o2, k⟩ := hp
      exact ⟨xv, dv, rv, o1, o2, k.blk, by
        show w'.ownsRow 0 _ 2 xv (put1 K.pipes n s').length (flat rcs (rowsOf (put1 K.pipes n s') M.bx))
        rw [put1_len, put1_rows]; exact k.rx, k.rd, k.rr, k.p1, k.p2, k.sq, k.sx, k.sd, k.sr, k.s1, k.s2, k.ne⟩
    | fs => exact hp
    | desc m => exact hp
    | proc m => exact hp
    | pipe m =>
      intro Q hQ
      have h1 : ask (put1 K.pipes n s') m = some Q := hQ
      rw [ask_put hs, if_neg (fun e => hj (by rw [e]))] at h1
      exact hp Q h1
/-- The tree turns: by what a step of the tree leaves. -/
theorem step_F (h : KerIs w B q K M) {Bf : Nat → Nat → Prop} (hB : ∀ g, All Bf g → B .fs g) {f' : Fs} (h' : FsP (All Bf) w w' M.fp f') : KP (AllX B) w K M w' q (setF K f') := by
  obtain ⟨B', h1, h2, h3⟩ := h'
  refine h.step .fs (S := All B') (fun g hg => (h2 g hg).elim (fun h => .inl (hB g h)) .inr) (fun g ⟨i, hi⟩ => h1.lt i g hi) (h3.mono hB) (K' := setF K f') (M' := M) ⟨B', h1, fun g hg => hg⟩ (fun j hj hp => ?_) (nmbF h.num f') (MExt.refl K M) (Nat.le_refl _) (Nat.le_refl _) (Nat.le_refl _)
  cases j with
  | own =>
    obtain ⟨xv, dv, rv, o1, o2, k⟩ := hp
    exact ⟨xv, dv, rv, o1, o2, k.blk, k.rx, k.rd, k.rr, k.p1, k.p2, k.sq, k.sx, k.sd, k.sr, k.s1, k.s2, k.ne⟩
  | fs => exact absurd rfl hj
  | pipe m => exact hp
  | desc m => exact hp
  | proc m => exact hp
theorem frm_of_pp {T U : Nat} {S : Nat → Prop} (h : Pp.Frame T U w w') (hT : S T) (hU : S U) : Frm S w w' :=
  ⟨h.os, h.tape, h.output, h.size, fun g hg hn => h.block g hg (fun e => hn (e ▸ hT)) (fun e => hn (e ▸ hU))⟩
/-- What a walk has come to. -/
structure Cur (O : Nat → Prop) (w0 : World) (K0 : Ker) (M0 : Mp) (q : Nat) (w : World) (K : Ker) (B : Ix → Nat → Prop) (M : Mp) : Prop where
  is_ : KerIs w B q K M
  ext : MExt K0 M0 M
  lx : K0.lastX ≤ K.lastX
  ld : K0.lastD ≤ K.lastD
  lr : K0.lastR ≤ K.lastR
  own : ∀ g, AllX B g → O g ∨ w0.heap.size ≤ g
  frm : Frm O w0 w
variable {O : Nat → Prop} {w0 : World} {K0 K' : Ker} {M0 : Mp}
theorem Cur.start (h : KerIs w B q K M) : Cur (AllX B) w K M q w K B M := ⟨h, MExt.refl K M, Nat.le_refl _, Nat.le_refl _, Nat.le_refl _, fun _ hg => .inl hg, Frm.refl _ _⟩
theorem Cur.below (h : Cur O w0 K0 M0 q w K B M) (hb : Below w.heap.size w w') : Cur O w0 K0 M0 q w' K B M := ⟨h.is_.below hb, h.ext, h.lx, h.ld, h.lr, h.own, h.frm.below hb⟩
theorem Cur.kp (h : Cur O w0 K0 M0 q w K B M) : KP O w0 K0 M0 w q K := ⟨B, M, h.is_, h.ext, h.lx, h.ld, h.lr, h.own, h.frm⟩
theorem Cur.next (h : Cur O w0 K0 M0 q w K B M) (k : KP (AllX B) w K M w' q K') : ∃ B' M', Cur O w0 K0 M0 q w' K' B' M' ∧ MExt K M M' ∧ K.lastX ≤ K'.lastX ∧ K.lastD ≤ K'.lastD ∧ K.lastR ≤ K'.lastR := by
  obtain ⟨B', M', k1, k2, k3, k4, k5, k6, k7⟩ := k
  exact ⟨B', M', ⟨k1, h.ext.trans k2 h.lx h.ld h.lr, Nat.le_trans h.lx k3, Nat.le_trans h.ld k4, Nat.le_trans h.lr k5, fun g hg => (k6 g hg).elim (h.own g) (fun h' => .inr (Nat.le_trans h.frm.size h')), h.frm.trans h.own k7⟩, k2, k3, k4, k5⟩
end
end Go.Proofs.YtmilagppbepnbaaGreat.Kn

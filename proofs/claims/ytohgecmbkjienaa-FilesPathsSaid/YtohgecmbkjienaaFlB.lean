/- A tree of files in memory. No condition. -/
import Derived.Test.YtohgecmbkjienaaFlM
import Derived.Test.YtohgecmbkjienaaFlD
import Derived.Lib.IndexBytes
import Derived.PlainAid
namespace Go.Proofs.Ytohgecmbkjienaa
open Go.RowKit Go.PlainAid

/-- Only blocks of O may turn. -/
structure Frm (O : Nat → Prop) (w w' : World) : Prop where
  os : w'.os = w.os
  tape : w'.tape = w.tape
  output : w'.output = w.output
  size : w.heap.size ≤ w'.heap.size
  block : ∀ g, g < w.heap.size → ¬ O g → w'.heap[g]? = w.heap[g]?
theorem Frm.refl (O : Nat → Prop) (w : World) : Frm O w w := ⟨rfl, rfl, rfl, Nat.le_refl _, fun _ _ _ => rfl⟩
theorem Frm.trans {O O1 : Nat → Prop} {w w1 w2 : World} (h : Frm O w w1) (hg : ∀ g, O1 g → O g ∨ w.heap.size ≤ g) (h1 : Frm O1 w1 w2) : Frm O w w2 :=
  ⟨h1.os.trans h.os, h1.tape.trans h.tape, h1.output.trans h.output, Nat.le_trans h.size h1.size, fun g hlt hO => (h1.block g (Nat.lt_of_lt_of_le hlt h.size) (fun h' => by
    rcases hg g h' with h'' | h''
    · exact hO h''
    · omega)).trans (h.block g hlt hO)⟩
theorem Frm.below {O : Nat → Prop} {w w1 w2 : World} (h : Frm O w w1) (h1 : Below w1.heap.size w1 w2) : Frm O w w2 :=
  ⟨h1.os.trans h.os, h1.tape.trans h.tape, h1.output.trans h.output, Nat.le_trans h.size h1.size, fun g hlt hO => (h1.block g (Nat.lt_of_lt_of_le hlt h.size)).trans (h.block g hlt hO)⟩
theorem Frm.toBelow {O : Nat → Prop} {n₀ : Nat} {w w' : World} (h : Frm O w w') (hO : ∀ g, O g → n₀ ≤ g) (hn : n₀ ≤ w.heap.size) : Below n₀ w w' :=
  ⟨h.os, h.tape, h.output, h.size, fun g hg => h.block g (by omega) (fun h' => by have := hO g h'; omega)⟩
theorem Frm.mono {O O' : Nat → Prop} {w w' : World} (h : Frm O w w') (hO : ∀ g, O g → O' g) : Frm O' w w' := ⟨h.os, h.tape, h.output, h.size, fun g h1 h2 => h.block g h1 (fun h3 => h2 (hO g h3))⟩
theorem Frm.of_below {O : Nat → Prop} {w w' : World} (h : Below w.heap.size w w') : Frm O w w' := ⟨h.os, h.tape, h.output, h.size, fun g h1 _ => h.block g h1⟩
theorem Frm.grown {O : Nat → Prop} {w w1 w2 : World} {v : Option Nat} (h : Frm O w w1) (hg : w1.grownBy w2 v) (hv : ∀ g, v = some g → O g ∨ w.heap.size ≤ g) : Frm O w w2 :=
  ⟨hg.os.trans h.os, hg.tape.trans h.tape, hg.output.trans h.output, Nat.le_trans h.size hg.size, fun g h1 h2 => (hg.block g (Nat.lt_of_lt_of_le h1 h.size) (fun e => by
    rcases hv g e.symm with h3 | h3
    · exact h2 h3
    · omega)).trans (h.block g h1 h2)⟩
theorem Frm.setCell {O : Nat → Prop} {w w1 : World} (h : Frm O w w1) {a : Addr} (ha : O a.block ∨ w.heap.size ≤ a.block) (u : Value) : Frm O w (w1.setCell a u) :=
  ⟨h.os, h.tape, h.output, by simpa using h.size, fun g h1 h2 => (Below.heap_setCell _ _ _ _ (fun e => by
    rcases ha with h3 | h3
    · exact h2 (e ▸ h3)
    · omega)).trans (h.block g h1 h2)⟩
theorem Frm.alloc {O : Nat → Prop} {w w1 : World} (h : Frm O w w1) (o : Obj) : Frm O w (w1.alloc o) := h.below ((Below.refl _ _).alloc (Nat.le_refl _) _)

theorem ownsRow_weak0 {w : World} {b : Nat} {e : TypeId} {size : Nat} {v : Value} {n : Nat} {xs : List Value} (h : w.ownsRow b e size v n xs) : w.ownsRow 0 e size v n xs := row_weak h (Nat.zero_le _)
theorem Blk.keep {w w' : World} {g : Nat} {t : TypeId} {cs : Array Value} (h : Blk w g t cs) (hg : w'.heap[g]? = w.heap[g]?) : Blk w' g t cs := hg.trans h

def icells (I : Ino) (dv ev : Value) : Array Value := #[.int .i64 I.kind, .int .i64 I.mode, .int .i64 I.links, .int .i64 I.holds, dv, ev, .int .i64 I.parent]
/-- An inode in memory; all that it lies in is in S. -/
structure InoAt (w : World) (S : Nat → Prop) (q : Nat) (I : Ino) (dv ev : Value) : Prop where
  blk : Blk w q 73 (icells I dv ev)
  dat : w.ownsRow 0 5 1 dv I.data.length (Lib.byteCells I.data)
  ent : w.ownsRow 0 105 2 ev I.ents.length (flat ecs I.ents)
  sq : S q
  sd : ∀ g, dv.ownBlock = some g → S g
  se : ∀ g, ev.ownBlock = some g → S g
  lt : ∀ g, S g → g < w.heap.size
def InoIs (w : World) (S : Nat → Prop) (q : Nat) (I : Ino) : Prop := ∃ dv ev, InoAt w S q I dv ev
theorem InoAt.keep {w w' : World} {S : Nat → Prop} {q : Nat} {I : Ino} {dv ev : Value} (h : InoAt w S q I dv ev) (hs : w.heap.size ≤ w'.heap.size) (hb : ∀ g, S g → w'.heap[g]? = w.heap[g]?) : InoAt w' S q I dv ev :=
  ⟨h.blk.keep (hb q h.sq), row_keep h.dat (fun g hg => hb g (h.sd g hg)), row_keep h.ent (fun g hg => hb g (h.se g hg)), h.sq, h.sd, h.se, fun g hg => Nat.lt_of_lt_of_le (h.lt g hg) hs⟩
theorem InoAt.below {w w' : World} {S : Nat → Prop} {q : Nat} {I : Ino} {dv ev : Value} (h : InoAt w S q I dv ev) (hb : Below w.heap.size w w') : InoAt w' S q I dv ev := h.keep hb.size (fun g hg => hb.block g (h.lt g hg))
/-- What a step on one inode leaves. -/
def InoP (S : Nat → Prop) (w0 w : World) (q : Nat) (I : Ino) : Prop := ∃ S', InoIs w S' q I ∧ (∀ g, S' g → S g ∨ w0.heap.size ≤ g) ∧ Frm S w0 w

def ptrV (o : Option Nat) : Value := .pointer (o.map fun q => ⟨q, 0, none⟩)
def ptrs (ps : List (Option Nat)) : List Value := ps.map ptrV
theorem ptrs_one (ps : List (Option Nat)) : ∀ u ∈ ptrs ps, u.oneCell' = true := fun u hu => by
  obtain ⟨o, _, rfl⟩ := List.mem_map.1 hu
  rfl
theorem ptrs_len (ps : List (Option Nat)) : (ptrs ps).length = ps.length := List.length_map ..
/-- A tree in memory: B 0 is what the slots lie in, B (i + 1) what is the slot i's. -/
structure FsAt (w : World) (B : Nat → Nat → Prop) (p : Nat) (f : Fs) (sv : Value) (ps : List (Option Nat)) : Prop where
  blk : Blk w p 68 #[sv]
  row : w.ownsRow 0 77 1 sv ps.length (ptrs ps)
  len : ps.length = f.length
  bp : B 0 p
  bs : ∀ g, sv.ownBlock = some g → B 0 g
  some_ : ∀ (i : Nat) I, f[i]? = some (some I) → ∃ q, ps[i]? = some (some q) ∧ InoIs w (B (i + 1)) q I
  none_ : ∀ i : Nat, f[i]? = some none → ps[i]? = some none
  apart : ∀ i j g, B i g → B j g → i = j
  lt : ∀ i g, B i g → g < w.heap.size
def FsIs (w : World) (B : Nat → Nat → Prop) (p : Nat) (f : Fs) : Prop := ∃ sv ps, FsAt w B p f sv ps
def All (B : Nat → Nat → Prop) (g : Nat) : Prop := ∃ i, B i g
/-- What a step on a tree leaves. -/
def FsP (O : Nat → Prop) (w0 w : World) (p : Nat) (f : Fs) : Prop := ∃ B, FsIs w B p f ∧ (∀ g, All B g → O g ∨ w0.heap.size ≤ g) ∧ Frm O w0 w
theorem FsAt.keep {w w' : World} {B : Nat → Nat → Prop} {p : Nat} {f : Fs} {sv : Value} {ps : List (Option Nat)} (h : FsAt w B p f sv ps) (hs : w.heap.size ≤ w'.heap.size) (hb : ∀ i g, B i g → w'.heap[g]? = w.heap[g]?) : FsAt w' B p f sv ps :=
  ⟨h.blk.keep (hb 0 p h.bp), row_keep h.row (fun g hg => hb 0 g (h.bs g hg)), h.len, h.bp, h.bs, fun i I hi => by
    obtain ⟨q, h1, dv, ev, h2⟩ := h.some_ i I hi
    exact ⟨q, h1, dv, ev, h2.keep hs (fun g hg => hb _ g hg)⟩, h.none_, h.apart, fun i g hg => Nat.lt_of_lt_of_le (h.lt i g hg) hs⟩
theorem FsIs.keep {w w' : World} {B : Nat → Nat → Prop} {p : Nat} {f : Fs} (h : FsIs w B p f) (hs : w.heap.size ≤ w'.heap.size) (hb : ∀ i g, B i g → w'.heap[g]? = w.heap[g]?) : FsIs w' B p f := by
  obtain ⟨sv, ps, h⟩ := h
  exact ⟨sv, ps, h.keep hs hb⟩
theorem FsIs.lt {w : World} {B : Nat → Nat → Prop} {p : Nat} {f : Fs} (h : FsIs w B p f) : ∀ i g, B i g → g < w.heap.size := by
  obtain ⟨sv, ps, h⟩ := h
  exact h.lt
theorem FsIs.below {w w' : World} {B : Nat → Nat → Prop} {p : Nat} {f : Fs} (h : FsIs w B p f) (hb : Below w.heap.size w w') : FsIs w' B p f := h.keep hb.size (fun i g hg => hb.block g (h.lt i g hg))
/-- Where only blocks that aren't the tree's turn, the tree stays. -/
theorem FsIs.frm {w w' : World} {B : Nat → Nat → Prop} {p : Nat} {f : Fs} {O : Nat → Prop} (h : FsIs w B p f) (hF : Frm O w w') (hO : ∀ i g, B i g → ¬ O g) : FsIs w' B p f := h.keep hF.size (fun i g hg => hF.block g (h.lt i g hg) (hO i g hg))
theorem FsP.of {w w' : World} {B : Nat → Nat → Prop} {p : Nat} {f : Fs} (h : FsIs w B p f) (hb : Below w.heap.size w w') : FsP (All B) w w' p f := ⟨B, h.below hb, fun _ hg => .inl hg, Frm.of_below hb⟩
theorem FsP.trans {O : Nat → Prop} {w w1 w2 : World} {B : Nat → Nat → Prop} {p : Nat} {f : Fs} (hO : ∀ g, All B g → O g ∨ w.heap.size ≤ g) (hF : Frm O w w1) (h : FsP (All B) w1 w2 p f) : FsP O w w2 p f := by
  obtain ⟨B', h1, h2, h3⟩ := h
  exact ⟨B', h1, fun g hg => (h2 g hg).elim (hO g) (fun h => .inr (Nat.le_trans hF.size h)), hF.trans hO h3⟩

def upB (B : Nat → Nat → Prop) (i : Nat) (S : Nat → Prop) : Nat → Nat → Prop := fun j g => if j = i then S g else B j g
/-- One inode turns. -/
theorem FsAt.turn {w w' : World} {B : Nat → Nat → Prop} {p : Nat} {f : Fs} {sv : Value} {ps : List (Option Nat)} (h : FsAt w B p f sv ps) {i q : Nat} {I' : Ino} (hi : i < f.length) (hq : ps[i]? = some (some q)) {S' : Nat → Prop} (hI : InoIs w' S' q I') (hS : ∀ g, S' g → B (i + 1) g ∨ w.heap.size ≤ g) (hF : Frm (B (i + 1)) w w') :
    FsAt w' (upB B (i + 1) S') p (f.set i (some I')) sv ps := by
  have hb : ∀ j g, j ≠ i + 1 → B j g → w'.heap[g]? = w.heap[g]? := fun j g hj hg => hF.block g (h.lt j g hg) (fun h' => hj (h.apart _ _ _ hg h'))
  refine ⟨h.blk.keep (hb 0 p (by omega) h.bp), row_keep h.row (fun g hg => hb 0 g (by omega) (h.bs g hg)), by rw [h.len, List.length_set], ?_, fun g hg => ?_, fun j J hj => ?_, fun j hj => ?_, fun a b g ha hb' => ?_, fun a g ha => ?_⟩
  · unfold upB; rw [if_neg (by omega)]; exact h.bp
  · unfold upB; rw [if_neg (by omega)]; exact h.bs g hg
  · by_cases e : j = i
    · subst e
      rw [List.getElem?_set_self hi] at hj
      cases hj
      refine ⟨q, hq, ?_⟩
      unfold upB
      simpa using hI
    · rw [List.getElem?_set_ne (fun h => e h.symm)] at hj
      obtain ⟨q', h1, dv, ev, h2⟩ := h.some_ j J hj
      refine ⟨q', h1, dv, ev, ?_⟩
      have h3 := h2.keep hF.size (fun g hg => hb (j + 1) g (by omega) hg)
      have e2 : upB B (i + 1) S' (j + 1) = B (j + 1) := by funext g; unfold upB; rw [if_neg (by omega)]
      rw [e2]
      exact h3
  · by_cases e : j = i
    · subst e
      rw [List.getElem?_set_self hi] at hj
      cases hj
    · rw [List.getElem?_set_ne (fun h => e h.symm)] at hj
      exact h.none_ j hj
  · unfold upB at ha hb'
    split at ha
    · split at hb'
      · omega
      · rcases hS g ha with h1 | h1
        · have := h.apart _ _ _ h1 hb'; omega
        · have := h.lt _ _ hb'; omega
    · split at hb'
      · rcases hS g hb' with h1 | h1
        · have := h.apart _ _ _ h1 ha; omega
        · have := h.lt _ _ ha; omega
      · exact h.apart _ _ _ ha hb'
  · unfold upB at ha
    split at ha
    · obtain ⟨dv, ev, h1⟩ := hI
      exact h1.lt g ha
    · exact Nat.lt_of_lt_of_le (h.lt _ _ ha) hF.size
theorem FsAt.turnP {w w' : World} {B : Nat → Nat → Prop} {p : Nat} {f : Fs} {sv : Value} {ps : List (Option Nat)} (h : FsAt w B p f sv ps) {i q : Nat} {I' : Ino} (hi : i < f.length) (hq : ps[i]? = some (some q)) (hI : InoP (B (i + 1)) w w' q I') : FsP (All B) w w' p (f.set i (some I')) := by
  obtain ⟨S', h1, h2, h3⟩ := hI
  refine ⟨_, ⟨sv, ps, h.turn hi hq h1 h2 h3⟩, fun g ⟨j, hj⟩ => ?_, h3.mono (fun g hg => ⟨_, hg⟩)⟩
  unfold upB at hj
  split at hj
  · rcases h2 g hj with h4 | h4
    · exact .inl ⟨_, h4⟩
    · exact .inr h4
  · exact .inl ⟨_, hj⟩
theorem node_some {f : Fs} {n : Int} {I : Ino} (h : node f n = some I) : ∃ i : Nat, n = i + 1 ∧ i < f.length ∧ f[i]? = some (some I) := by
  unfold node at h
  split at h
  · cases h
  · refine ⟨(n - 1).toNat, by omega, ?_⟩
    cases hk : f[(n - 1).toNat]? with
    | none => rw [hk] at h; cases h
    | some o =>
      rw [hk] at h
      have h' : o = some I := h
      rw [h']
      exact ⟨(List.getElem?_eq_some_iff.1 hk).1, rfl⟩
theorem node_at {f : Fs} {i : Nat} {I : Ino} (h : f[i]? = some (some I)) : node f ((i : Int) + 1) = some I := by
  unfold node
  rw [if_neg (by omega), show ((i : Int) + 1 - 1).toNat = i by omega, h]
  rfl
theorem putAt_at (f : Fs) (i : Nat) (x : Option Ino) : putAt f (i + 1) x = f.set i x := rfl
end Go.Proofs.Ytohgecmbkjienaa

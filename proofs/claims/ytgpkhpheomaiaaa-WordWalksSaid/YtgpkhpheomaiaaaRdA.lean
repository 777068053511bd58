/- The reader of a word: what it holds, as plain data, and in memory. No condition. -/
import Derived.Test.YtgpkhpheomaiaaaWrdF
import Derived.Lib.AppendStr
namespace Go.Proofs.Ytgpkhpheomaiaaa
open Go.RowKit Go.PlainAid
attribute [local go_sem] Oper.semAt_some

/-- A part of a word. -/
inductive PT where
  | mk (kind : Nat) (text op : ByteArray) (word : List PT) (quoted : Bool)
def PT.kind : PT → Nat | .mk k _ _ _ _ => k
def PT.text : PT → ByteArray | .mk _ t _ _ _ => t
def PT.op : PT → ByteArray | .mk _ _ o _ _ => o
def PT.word : PT → List PT | .mk _ _ _ l _ => l
def PT.quoted : PT → Bool | .mk _ _ _ _ q => q
def litT (bs : List UInt8) (q : Bool) : PT := .mk 1 ⟨bs.toArray⟩ ⟨#[]⟩ [] q
/-- What a reader has: its parts; what is taken as it is; is that quoted; is it open. -/
structure St where
  ps : List PT
  bytes : List UInt8
  q : Bool
  o : Bool
def St.close (s : St) : St := ⟨if s.o then s.ps ++ [litT s.bytes s.q] else s.ps, [], false, false⟩
def St.add (s : St) (x : ByteArray) (q : Bool) : St := ⟨s.ps, s.bytes ++ x.data.toList, q, true⟩
def St.take (s : St) (x : ByteArray) (q : Bool) : St := if s.o && s.q != q then s.close.add x q else s.add x q
def St.part (s : St) (p : PT) : St := ⟨s.close.ps ++ [p], [], false, false⟩

/-- A slice in memory reads as these parts; all that it lies in is in T. -/
def WAt (w : World) (T : Nat → Prop) : Nat → Value → List PT → Prop
  | 0 => fun v l => v = .slice none 0 0 ∧ l = []
  | D + 1 => fun v l => ∃ pts : List Pt, (∃ base, w.ownsRow base 35 5 v l.length (pv pts)) ∧ (∀ g, v.ownBlock = some g → T g) ∧ pts.length = l.length ∧
      ∀ (i : Nat) (x : Pt) (p : PT), pts[i]? = some x → l[i]? = some p → x.kind = p.kind ∧ x.text = p.text ∧ x.op = p.op ∧ x.quoted = p.quoted ∧ WAt w T D (.slice x.wa x.wn x.wc) p.word
/-- Five cells are a part. -/
def PtIs (w : World) (T : Nat → Prop) (D : Nat) (x : Pt) (p : PT) : Prop := x.kind = p.kind ∧ x.text = p.text ∧ x.op = p.op ∧ x.quoted = p.quoted ∧ WAt w T D (.slice x.wa x.wn x.wc) p.word
theorem WAt_nil (w : World) (T : Nat → Prop) : ∀ D, WAt w T D (.slice none 0 0) []
  | 0 => ⟨rfl, rfl⟩
  | D + 1 => ⟨[], ⟨0, World.ownsRow_nil w _ _ _⟩, fun g h => (by simp [Value.ownBlock] at h), rfl, fun i x p h => by cases h⟩
theorem WAt_mono {w w' : World} {T T' : Nat → Prop} (hT : ∀ g, T g → T' g) (hb : ∀ g, T g → w'.heap[g]? = w.heap[g]?) : ∀ (D : Nat) (v : Value) (l : List PT), WAt w T D v l → WAt w' T' D v l
  | 0, _, _, h => h
  | D + 1, v, l, ⟨pts, ⟨base, hr⟩, ho, hl, hi⟩ => ⟨pts, ⟨base, row_keep hr (fun g hg => hb g (ho g hg))⟩, fun g hg => hT g (ho g hg), hl, fun i x p hx hp => by
      obtain ⟨h1, h2, h3, h4, h5⟩ := hi i x p hx hp
      exact ⟨h1, h2, h3, h4, WAt_mono hT hb D _ _ h5⟩⟩
theorem WAt_succ {w : World} {T : Nat → Prop} : ∀ (D : Nat) (v : Value) (l : List PT), WAt w T D v l → WAt w T (D + 1) v l
  | 0, _, _, ⟨h1, h2⟩ => by subst h1 h2; exact WAt_nil w T 1
  | D + 1, v, l, ⟨pts, hr, ho, hl, hi⟩ => ⟨pts, hr, ho, hl, fun i x p hx hp => by
      obtain ⟨h1, h2, h3, h4, h5⟩ := hi i x p hx hp
      exact ⟨h1, h2, h3, h4, WAt_succ D _ _ h5⟩⟩
theorem PtIs_mono {w w' : World} {T T' : Nat → Prop} {D : Nat} {x : Pt} {p : PT} (hT : ∀ g, T g → T' g) (hb : ∀ g, T g → w'.heap[g]? = w.heap[g]?) (h : PtIs w T D x p) : PtIs w' T' D x p :=
  ⟨h.1, h.2.1, h.2.2.1, h.2.2.2.1, WAt_mono hT hb D _ _ h.2.2.2.2⟩

/-- Only blocks of O may turn. -/
structure Frm (O : Nat → Prop) (w w' : World) : Prop where
  os : w'.os = w.os
  tape : w'.tape = w.tape
  output : w'.output = w.output
  size : w.heap.size ≤ w'.heap.size
  block : ∀ g, g < w.heap.size → ¬ O g → w'.heap[g]? = w.heap[g]?
theorem Frm.refl (O : Nat → Prop) (w : World) : Frm O w w := ⟨rfl, rfl, rfl, Nat.le_refl _, fun _ _ _ => rfl⟩
theorem Frm.trans {O O1 : Nat → Prop} {w w1 w2 : World} (h : Frm O w w1) (hg : ∀ g, O1 g → O g ∨ w.heap.size ≤ g) (h1 : Frm O1 w1 w2) : Frm O w w2 :=
  ⟨h1.os.trans h.os, h1.tape.trans h.tape, h1.output.trans h.output, Nat.le_trans h.size h1.size, fun g hlt hO => (h1.block g (Nat.lt_of_lt_of_le hlt h.size) (fun h' => by
    rcases hg g h' with h'' | h''
    · exact hO h''
    · omega)).trans (h.block g hlt hO)⟩
theorem Frm.below {O : Nat → Prop} {w w1 w2 : World} (h : Frm O w w1) (h1 : Below w1.heap.size w1 w2) : Frm O w w2 :=
  ⟨h1.os.trans h.os, h1.tape.trans h.tape, h1.output.trans h.output, Nat.le_trans h.size h1.size, fun g hlt hO => (h1.block g (Nat.lt_of_lt_of_le hlt h.size)).trans (h.block g hlt hO)⟩
theorem Frm.toBelow {O : Nat → Prop} {n₀ : Nat} {w w' : World} (h : Frm O w w') (hO : ∀ g, O g → n₀ ≤ g) (hn : n₀ ≤ w.heap.size) : Below n₀ w w' :=
  ⟨h.os, h.tape, h.output, h.size, fun g hg => h.block g (by omega) (fun h' => by have := hO g h'; omega)⟩
theorem Fr.frm {O : Nat → Prop} {b : Nat} {v : Option Nat} {w w' : World} (h : Fr b v w w') (hb : O b) (hv : ∀ g, v = some g → O g) : Frm O w w' :=
  ⟨h.os, h.tape, h.output, h.size, fun g hlt hO => h.block g hlt (fun e => hO (e ▸ hb)) (fun e => hO (hv g e.symm))⟩

/-- A reader in memory. -/
def Rd (w : World) (b n₀ : Nat) (t : ByteArray) (k d : Int) (D : Nat) (st : St) (O : Nat → Prop) : Prop :=
  ∃ (T : Nat → Prop) (pts : List Pt) (a0 : Option Addr) (c0 : Nat) (a1 : Option Addr) (c1 : Nat),
    Blk w b 59 (rd t k d a0 pts.length c0 a1 st.bytes.length c1 st.q st.o) ∧
    w.ownsRow n₀ 35 5 (.slice a0 pts.length c0) pts.length (pv pts) ∧
    w.ownsRow n₀ 5 1 (.slice a1 st.bytes.length c1) st.bytes.length (Lib.byteCells st.bytes) ∧
    pts.length = st.ps.length ∧ (∀ (i : Nat) (x : Pt) (p : PT), pts[i]? = some x → st.ps[i]? = some p → PtIs w T D x p) ∧
    (∀ g, T g → n₀ ≤ g ∧ g < w.heap.size ∧ ¬ O g) ∧ (O b ∧ (∀ g, Value.ownBlock (.slice a0 pts.length c0) = some g → O g) ∧ (∀ g, Value.ownBlock (.slice a1 st.bytes.length c1) = some g → O g) ∧ (∀ g, O g → n₀ ≤ g ∧ g < w.heap.size)) ∧
    (st.o = false → st.bytes = [] ∧ st.q = false)
/-- What a step of the reader leaves. -/
def RdPost (w : World) (b n₀ : Nat) (t : ByteArray) (k d : Int) (D : Nat) (O : Nat → Prop) (st : St) (w' : World) : Prop :=
  ∃ O', Rd w' b n₀ t k d D st O' ∧ (∀ g, O' g → O g ∨ w.heap.size ≤ g) ∧ Frm O w w'
theorem RdPost.trans {w w1 w2 : World} {b n₀ : Nat} {t : ByteArray} {k d : Int} {D : Nat} {O O1 : Nat → Prop} {st : St} (hg : ∀ g, O1 g → O g ∨ w.heap.size ≤ g) (hF : Frm O w w1) (h : RdPost w1 b n₀ t k d D O1 st w2) : RdPost w b n₀ t k d D O st w2 := by
  obtain ⟨O2, h1, h2, h3⟩ := h
  exact ⟨O2, h1, fun g hg2 => (h2 g hg2).elim (hg g) (fun h => .inr (Nat.le_trans hF.size h)), hF.trans hg h3⟩
theorem Rd.lt {w : World} {b n₀ : Nat} {t : ByteArray} {k d : Int} {D : Nat} {st : St} {O : Nat → Prop} (h : Rd w b n₀ t k d D st O) : n₀ ≤ b ∧ b < w.heap.size := by
  obtain ⟨_, _, _, _, _, _, _, _, _, _, _, _, ⟨hb, _, _, hO⟩, _⟩ := h
  exact hO b hb
/-- A reader stays what it is where its blocks stay. -/
theorem Rd.keep {w w' : World} {b n₀ : Nat} {t : ByteArray} {k d : Int} {D : Nat} {st : St} {O : Nat → Prop} (h : Rd w b n₀ t k d D st O) (hs : w.heap.size ≤ w'.heap.size) (hb : ∀ g, n₀ ≤ g → g < w.heap.size → w'.heap[g]? = w.heap[g]?) : Rd w' b n₀ t k d D st O := by
  obtain ⟨T, pts, a0, c0, a1, c1, hB, hr, hy, hl, hp, hT, ⟨o1, o2, o3, o4⟩, hq⟩ := h
  refine ⟨T, pts, a0, c0, a1, c1, (hb b (o4 b o1).1 (o4 b o1).2).trans hB, row_keep hr (fun g hg => hb g (o4 g (o2 g hg)).1 (o4 g (o2 g hg)).2), row_keep hy (fun g hg => hb g (o4 g (o3 g hg)).1 (o4 g (o3 g hg)).2), hl,
    fun i x p hx hi => PtIs_mono (fun _ h => h) (fun g hg => hb g (hT g hg).1 (hT g hg).2.1) (hp i x p hx hi), fun g hg => ⟨(hT g hg).1, by have := (hT g hg).2.1; omega, (hT g hg).2.2⟩, ⟨o1, o2, o3, fun g hg => ⟨(o4 g hg).1, by have := (o4 g hg).2; omega⟩⟩, hq⟩
theorem Rd.drew {w : World} {b n₀ : Nat} {t : ByteArray} {k d : Int} {D : Nat} {st : St} {O : Nat → Prop} (h : Rd w b n₀ t k d D st O) : Rd w.drew b n₀ t k d D st O := h.keep (Nat.le_refl _) (fun _ _ _ => rfl)
theorem Rd.alloc {w : World} {b n₀ : Nat} {t : ByteArray} {k d : Int} {D : Nat} {st : St} {O : Nat → Prop} (h : Rd w b n₀ t k d D st O) (o : Obj) : Rd (w.alloc o) b n₀ t k d D st O := h.keep (by simp) (fun g _ hg => Below.heap_alloc w o g hg)

theorem pts_snoc {w w' : World} {T : Nat → Prop} {D : Nat} {pts : List Pt} {ps : List PT} {x : Pt} {p : PT} (hl : pts.length = ps.length) (h : ∀ (i : Nat) (x : Pt) (p : PT), pts[i]? = some x → ps[i]? = some p → PtIs w T D x p)
    {T' : Nat → Prop} (hT : ∀ g, T g → T' g) (hb : ∀ g, T g → w'.heap[g]? = w.heap[g]?) (hx : PtIs w' T' D x p) : ∀ (i : Nat) (y : Pt) (q : PT), (pts ++ [x])[i]? = some y → (ps ++ [p])[i]? = some q → PtIs w' T' D y q := by
  intro i y q hy hq
  by_cases hi : i < pts.length
  · rw [List.getElem?_append_left hi] at hy
    rw [List.getElem?_append_left (by omega)] at hq
    exact PtIs_mono hT hb (h i y q hy hq)
  · rw [List.getElem?_append_right (by omega)] at hy hq
    rw [← hl] at hq
    cases hk : i - pts.length with
    | zero =>
      rw [hk] at hy hq
      cases hy
      cases hq
      exact hx
    | succ n => rw [hk] at hy; cases hy
end Go.Proofs.Ytgpkhpheomaiaaa

/- substitution of a word's reader: what its walk stands on. No condition. -/
import Derived.Test.YtgpkhpheomaiaaaRdK
namespace Go.Proofs.Ytgpkhpheomaiaaa
open Go.RowKit Go.PlainAid
attribute [local go_sem] Oper.semAt_some

/-- Nothing but draws. -/
def Dr (w w' : World) : Prop := ∃ m, w' = w.drewN m
theorem Dr.below {w w' : World} (h : Dr w w') : Below w.heap.size w w' := by obtain ⟨m, rfl⟩ := h; exact ⟨rfl, rfl, rfl, Nat.le_refl _, fun _ _ => rfl⟩
theorem Dr.size {w w' : World} (h : Dr w w') : w'.heap.size = w.heap.size := by obtain ⟨m, rfl⟩ := h; rfl
theorem Rd.below {w w' : World} {b n₀ : Nat} {t : ByteArray} {k d : Int} {D : Nat} {st : St} {O : Nat → Prop} (h : Rd w b n₀ t k d D st O) (hb : Below w.heap.size w w') : Rd w' b n₀ t k d D st O := h.keep hb.size (fun g _ hg => hb.block g hg)
theorem below_frm {O : Nat → Prop} {w w' : World} (h : Below w.heap.size w w') : Frm O w w' := ⟨h.os, h.tape, h.output, h.size, fun g hg _ => h.block g hg⟩
/-- What a step of the reader answers. -/
def StepR (w : World) (b n₀ : Nat) (t : ByteArray) (k d : Int) (D : Nat) (O : Nat → Prop) (res : Except Nat (Nat × St)) (e : Ending) (w' : World) : Prop :=
  (∃ er : Nat, res = .error er ∧ er ≠ 0 ∧ e = .returned (.tuple #[.int .i64 0, .int .i64 er]) ∧ Below n₀ w w') ∨
  (∃ (n : Nat) (st' : St), res = .ok (n, st') ∧ e = .returned (.tuple #[.int .i64 n, .int .i64 0]) ∧ RdPost w b n₀ t k d D O st' w')

section
variable {w : World} {b n₀ : Nat} {t : ByteArray} {k d : Int} {D : Nat} {st : St} {O : Nat → Prop} {rec : Rec}
theorem rend_dr (h : Rd w b n₀ t k d D st O) (i kk nx pl er : Nat) (hE : endM t i kk (k != 0) = ⟨nx, pl, er⟩) (ht : t.size ≤ 65536) (hi : i < t.size) (hd : d + kk = 24) (hd0 : 0 ≤ d) :
    Calls Try.prog 43 #[.pointer (some ⟨b, 0, none⟩), .int .i64 i] w fun e w' => e = .returned (.tuple #[.int .i64 nx, .int .i64 er]) ∧ Dr w w' :=
  (rend_rd h i kk ht hi hd hd0).mono fun _ _ ⟨h1, h2⟩ => ⟨by rw [h1, hE], h2⟩
theorem expr_dr (h : Rd w b n₀ t k d D st O) (s : ByteArray) (kk : Nat) (v : Bool) (hv : exprM s kk (k != 0) = v) (hs : s.size < 65536) (hd : d + kk = 24) (hd0 : 0 ≤ d) :
    Calls Try.prog 52 #[.pointer (some ⟨b, 0, none⟩), .string s] w fun e w' => e = .returned (.bool v) ∧ Dr w w' :=
  (isExpression_rd h s kk hs hd hd0).mono fun _ _ ⟨h1, h2⟩ => ⟨by rw [h1, hv], h2⟩
theorem quoted_rd (h : Rd w b n₀ t k d D st O) (v : Bool) (hv : (k != 0) = v) : Calls Try.prog 36 #[.pointer (some ⟨b, 0, none⟩)] w fun e w' => e = .returned (.bool v) ∧ w' = w := by
  rw [← hv]; exact isQuoted_rd h

/-- What is left behind a substitution whose part lies in block g. -/
theorem sub_fin {w1 W4 w5 : World} {p : PT} {q : Bool} (hD1 : Dr w w1) (hb3 : Below w1.heap.size w1 W4) (h5 : RdPost W4 b n₀ t k d D O (st.part (p.quote q)) w5) : RdPost w b n₀ t k d D O (st.part (p.quote q)) w5 :=
  RdPost.trans (fun _ h => .inl h) (below_frm (hD1.below.trans (hb3.mono (by rw [hD1.size]; exact Nat.le_refl _)))) h5
theorem PtIs.quote {w w' : World} {T : Nat → Prop} {D : Nat} {x : Pt} {p : PT} (h : PtIs w T D x p) (q : Bool) (hb : ∀ g, T g → w'.heap[g]? = w.heap[g]?) : PtIs w' T D ⟨x.kind, x.text, x.op, x.wa, x.wn, x.wc, q⟩ (p.quote q) :=
  ⟨h.1, h.2.1, h.2.2.1, rfl, WAt_mono (fun _ h => h) hb D _ _ h.2.2.2.2⟩
end
end Go.Proofs.Ytgpkhpheomaiaaa

/- Lines of quoted words with blanks behind them. No condition. -/
import Derived.Test.YtnhbcmhinhncfaaGreatDoorQdA
namespace Go.Proofs.YtnhbcmhinhncfaaGreatDoor
open Go.RowKit Go.PlainAid
set_option linter.unusedVariables false
set_option linter.unusedSimpArgs false
def segW (t : ByteArray) : List UInt8 := wq t ++ [32]
def toksW : List ByteArray → Nat → List Tk
  | [], _ => []
  | t :: l, p => ⟨1, ⟨(wq t).toArray⟩, p, ⟨#[]⟩, false⟩ :: toksW l (p + (wq t).length + 1)
theorem calm_word {ts : List Tk} {t : Tk} (h : t.kind = 1) : calm (ts ++ [t]) := by
  have e : lastM (ts ++ [t]) = ⟨#[]⟩ := by rw [last_app, h]; rfl
  exact ⟨by rw [e, Lib.toList_data]; simp, by rw [e, Lib.toList_data]; simp⟩
section
variable {s : ByteArray}
attribute [local irreducible] lineM wordM
set_option maxHeartbeats 400000 in
theorem line_one (t : ByteArray) (p : Nat) (ts : List Tk) (f : Nat) (r : List UInt8) (hw : (wq t).length ≤ 4096) (hd : s.data.toList.drop p = wq t ++ 32 :: r) (hcalm : calm ts) :
    lineM s (f + 2) ⟨p, ts, []⟩ = lineM s f ⟨p + (wq t).length + 1, ts ++ [⟨1, ⟨(wq t).toArray⟩, p, ⟨#[]⟩, false⟩], []⟩ ∧ s.data.toList.drop (p + (wq t).length + 1) = r := by
  have hd0 : s.data.toList.drop p = 39 :: (120 :: 39 :: (quoteM t).data.toList ++ 32 :: r) := by rw [hd]; simp [wq]
  obtain ⟨h1, h2, _⟩ := drop_bt hd0
  have h2' : bt s p = 39 := h2
  have hd9 := drop_app hd
  obtain ⟨g1, g2, g3⟩ := drop_bt hd9
  have hwe := wq_ends t p 32 r hd (by decide) s.size (by omega)
  have hcm : contM s p = false := by
    unfold contM
    rw [ext_all, hd0]
    unfold Lib.hasPrefix
    rw [List.isPrefixOf_cons_cons, show ((92 : UInt8) == 39) = false from rfl, Bool.false_and]
  have hno : ¬ 0 < opN (s.extract p s.size) := by rw [op_ends hd0 (by decide)]; exact Nat.lt_irrefl 0
  have hred : redM s (p + (wq t).length) = false := by
    unfold redM
    rw [g2]
    simp
  have htx : s.extract p (p + (wq t).length) = ⟨(wq t).toArray⟩ := ba_data (drop_ext hd)
  have hwm : wordM s ⟨p, ts, []⟩ = (0, 0, ⟨p + (wq t).length, ts ++ [⟨1, ⟨(wq t).toArray⟩, p, ⟨#[]⟩, false⟩], []⟩) := by
    unfold wordM
    rw [show (LS.mk p ts []).place = p from rfl, hwe]
    dsimp only
    rw [if_neg (by simp), if_neg (by omega), hred, Bool.and_false, if_neg (by simp), calm_del hcalm, show p + (wq t).length - p = (wq t).length by omega]
    unfold LS.tok
    dsimp only
    rw [htx]
    rfl
  have b1 : (bt s p == 32 || bt s p == 9) = false := by rw [h2']; decide
  have b2 : (bt s p == 35) = false := by rw [h2']; decide
  have b3 : (bt s p == 10) = false := by rw [h2']; decide
  have b4 : (wordM s ⟨p, ts, []⟩).2.1 = 0 := congrArg (fun x => x.2.1) hwm
  have h9 := line_word (f := f + 1) (st := ⟨p, ts, []⟩) h1 b1 hcm b2 b3 hno b4
  refine ⟨?_, g3⟩
  show lineM s (f + 1 + 1) ⟨p, ts, []⟩ = _
  rw [h9, hwm]
  have g2' : bt s (p + (wq t).length) = 32 := g2
  have b5 : (bt s (p + (wq t).length) == 32 || bt s (p + (wq t).length) == 9) = true := by rw [g2']; decide
  exact line_blank (f := f) (st := ⟨p + (wq t).length, ts ++ [⟨1, ⟨(wq t).toArray⟩, p, ⟨#[]⟩, false⟩], []⟩) g1 b5
theorem line_words : ∀ (l : List ByteArray) (p : Nat) (ts : List Tk) (f : Nat) (r : List UInt8), (∀ t ∈ l, (wq t).length ≤ 4096) → s.data.toList.drop p = l.flatMap segW ++ r → calm ts →
    lineM s (f + 2 * l.length) ⟨p, ts, []⟩ = lineM s f ⟨p + (l.flatMap segW).length, ts ++ toksW l p, []⟩ ∧ calm (ts ++ toksW l p) ∧ s.data.toList.drop (p + (l.flatMap segW).length) = r
  | [], p, ts, f, r, _, hd, hc => ⟨by simp [toksW], by simpa [toksW] using hc, by simpa using hd⟩
  | t :: l, p, ts, f, r, hw, hd, hc => by
    have hd1 : s.data.toList.drop p = wq t ++ 32 :: (l.flatMap segW ++ r) := by rw [hd]; simp [segW]
    obtain ⟨h1, h2⟩ := line_one t p ts (f + 2 * l.length) _ (hw t (List.mem_cons_self ..)) hd1 hc
    obtain ⟨h3, h4, h5⟩ := line_words l (p + (wq t).length + 1) (ts ++ [⟨1, ⟨(wq t).toArray⟩, p, ⟨#[]⟩, false⟩]) f r (fun x hx => hw x (List.mem_cons_of_mem _ hx)) h2 (calm_word rfl)
    have e1 : p + ((t :: l).flatMap segW).length = p + (wq t).length + 1 + (l.flatMap segW).length := by simp [segW]; omega
    have e2 : ts ++ toksW (t :: l) p = (ts ++ [⟨1, ⟨(wq t).toArray⟩, p, ⟨#[]⟩, false⟩]) ++ toksW l (p + (wq t).length + 1) := by simp [toksW]
    refine ⟨?_, by rw [e2]; exact h4, by rw [e1]; exact h5⟩
    rw [e1, e2, ← h3, ← h1]
    congr 1
set_option maxHeartbeats 2000000 in
/-- A line that ends with | and a byte 10; one that ends the text. -/
theorem line_bar {p : Nat} {ts : List Tk} {r : List UInt8} (f : Nat) (hd : s.data.toList.drop p = 124 :: 10 :: r) :
    lineM s (f + 2) ⟨p, ts, []⟩ = (0, 0, ⟨p + 2, ts ++ [⟨2, ⟨[(124 : UInt8)].toArray⟩, p, ⟨#[]⟩, false⟩, ⟨3, ⟨[(10 : UInt8)].toArray⟩, p + 1, ⟨#[]⟩, false⟩], []⟩) := by
  obtain ⟨h1, h2, h3⟩ := drop_bt hd
  obtain ⟨g1, g2, g3⟩ := drop_bt h3
  have h2' : bt s p = 124 := h2
  have g2' : bt s (p + 1) = 10 := g2
  have hnp : opN (s.extract p s.size) = 1 := opN_of ((ext_all (s := s) (i := p)).trans hd) (by decide) (fun d t e => by
    obtain ⟨rfl, _⟩ : (10 : UInt8) = d ∧ r = t := by simpa using e
    decide) (fun d e t ee => by
    obtain ⟨rfl, _⟩ : (10 : UInt8) = d ∧ r = e :: t := by simpa using ee
    cases e
    simp [opsL])
  have hcm : contM s p = false := by unfold contM; rw [ext_all, hd]; unfold Lib.hasPrefix; rw [List.isPrefixOf_cons_cons, show ((92 : UInt8) == 124) = false from rfl, Bool.false_and]
  have hcm1 : contM s (p + 1) = false := by unfold contM; rw [ext_all, h3]; unfold Lib.hasPrefix; rw [List.isPrefixOf_cons_cons, show ((92 : UInt8) == 10) = false from rfl, Bool.false_and]
  have b1 : (bt s p == 32 || bt s p == 9) = false := by rw [h2']; decide
  have b2 : (bt s p == 35) = false := by rw [h2']; decide
  have b3 : (bt s p == 10) = false := by rw [h2']; decide
  have b4 : 0 < opN (s.extract p s.size) := by rw [hnp]; decide
  have c1 : (bt s (p + 1) == 32 || bt s (p + 1) == 9) = false := by rw [g2']; decide
  have c2 : (bt s (p + 1) == 35) = false := by rw [g2']; decide
  have c3 : (bt s (p + 1) == 10) = true := by rw [g2']; decide
  have h9 := line_op (f := f + 1) (st := ⟨p, ts, []⟩) h1 b1 hcm b2 b3 b4
  show lineM s (f + 1 + 1) ⟨p, ts, []⟩ = _
  rw [h9, hnp]
  have htx : s.extract p (p + 1) = ⟨[(124 : UInt8)].toArray⟩ := ba_data (drop_ext (q := [124]) hd)
  have htx2 : s.extract (p + 1) (p + 1 + 1) = ⟨[(10 : UInt8)].toArray⟩ := ba_data (drop_ext (q := [10]) h3)
  have hst : LS.tok ⟨p, ts, []⟩ s 2 1 = ⟨p + 1, ts ++ [⟨2, ⟨[(124 : UInt8)].toArray⟩, p, ⟨#[]⟩, false⟩], []⟩ := by unfold LS.tok; rw [htx]; rfl
  rw [hst]
  have h10 := line_nl (f := f) (st := ⟨p + 1, ts ++ [⟨2, ⟨[(124 : UInt8)].toArray⟩, p, ⟨#[]⟩, false⟩], []⟩) g1 c1 hcm1 c2 c3
  rw [h10]
  unfold LS.tok
  dsimp only
  rw [htx2]
  simp
end
end Go.Proofs.YtnhbcmhinhncfaaGreatDoor
